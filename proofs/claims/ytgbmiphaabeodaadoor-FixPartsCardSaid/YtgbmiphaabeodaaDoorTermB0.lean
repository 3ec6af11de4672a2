/-
  Rows that ask for terms, and terms that were made, as plain data and in memory: words for the law's Build, Value and Values.
-/
import Derived.Test.YtgbmiphaabeodaaDoorTermX
namespace Go.Proofs.YtgbmiphaabeodaaDoor
open Go.ChangeShapes Go.WideShapes Go.ChangeAt Go.RowKit
set_option linter.unusedVariables false

structure Rw where
  op : Int
  w : Int
  val : Int
  a : Int
  b : Int
  c : Int
def Rw.v (r : Rw) : List Value := [.int .i64 r.op, .int .i64 r.w, .int .u16 r.val, .int .u8 r.a, .int .u8 r.b, .int .u8 r.c]
structure Rw.Ok (r : Rw) : Prop where
  val : 0 ≤ r.val ∧ r.val ≤ 65535
  a : 0 ≤ r.a ∧ r.a ≤ 255
  b : 0 ≤ r.b ∧ r.b ≤ 255
  c : 0 ≤ r.c ∧ r.c ≤ 255
/-- A slice that reads as rows. -/
structure RowsAt (w : World) (A : Option Addr) (rs : List Rw) : Prop where
  get : ∀ (i : Nat) (r : Rw), rs[i]? = some r → ∃ g off, A = some ⟨g, off, none⟩ ∧ g < w.heap.size ∧ ∀ j, j < 6 → w.cell? ⟨g, off + i * 6 + j, none⟩ = r.v[j]?
  ok : ∀ r ∈ rs, r.Ok
theorem RowsAt.below {w w' : World} {A : Option Addr} {rs : List Rw} {B : Nat} (h : RowsAt w A rs) (k : Below B w w') (hB : ∀ g off, A = some ⟨g, off, none⟩ → g < B) : RowsAt w' A rs :=
  ⟨fun i r hr => by
    obtain ⟨g, off, hA, hg, hc⟩ := h.get i r hr
    exact ⟨g, off, hA, Nat.lt_of_lt_of_le hg k.size, fun j hj => (k.cell (p := ⟨g, off + i * 6 + j, none⟩) (hB g off hA)).trans (hc j hj)⟩, h.ok⟩

/-- A term that was made: its number, the row that asked for it, its width, the places of its parts. -/
structure Md where
  t : Int
  r : Rw
  w : Int
  i0 : Nat
  i1 : Nat
  i2 : Nat
def Md.v (m : Md) : List Value := [.int .i64 m.t, .int .i64 m.r.op, .int .i64 m.r.w, .int .u16 m.r.val, .int .u8 m.r.a, .int .u8 m.r.b, .int .u8 m.r.c, .int .i64 m.w, .int .i64 m.i0, .int .i64 m.i1, .int .i64 m.i2]
def mdCells (ms : List Md) : List Value := ms.flatMap Md.v
theorem mdCells_snoc (ms : List Md) (m : Md) : mdCells (ms ++ [m]) = mdCells ms ++ m.v := by simp [mdCells]
theorem mdCells_at : ∀ (ms : List Md) (i j : Nat) (m : Md), ms[i]? = some m → j < 11 → (mdCells ms)[i * 11 + j]? = m.v[j]?
  | [], i, j, n, h, _ => by simp at h
  | m :: r, 0, j, n, h, hj => by
    have : m = n := by simpa using h
    subst this
    rw [mdCells, List.flatMap_cons, List.getElem?_append_left (by simp [Md.v]; omega)]
    simp
  | m :: r, i + 1, j, n, h, hj => by
    have h' : r[i]? = some n := by simpa using h
    rw [mdCells, List.flatMap_cons, List.getElem?_append_right (by simp [Md.v]; omega)]
    have := mdCells_at r i j n h' hj
    unfold mdCells at this
    rw [← this]
    congr 1
    simp [Md.v]; omega
theorem row_md {w : World} {base : Nat} {v : Value} {ms : List Md} (h : w.ownsRow base 38 11 v ms.length (mdCells ms)) {i : Nat} {m : Md} (hi : ms[i]? = some m) :
    ∃ (g cap : Nat), v = .slice (some ⟨g, 0, none⟩) ms.length cap ∧ g < w.heap.size ∧ base ≤ g ∧ ms.length ≤ cap ∧ cap ≤ maxLen ∧ ∀ j, j < 11 → w.cell? ⟨g, i * 11 + j, none⟩ = m.v[j]? := by
  have hl : i < ms.length := (List.getElem?_eq_some_iff.1 hi).1
  rcases h.2 with ⟨_, h0⟩ | ⟨g, cap, cur, rfl, hb, hh, hn, hc, hsz, ht⟩
  · omega
  · refine ⟨g, cap, rfl, lt_of_heap hh, hb, hn, hc, fun j hj => ?_⟩
    have hx : Has w g 38 cur := hh
    rw [hx.cell, ← mdCells_at ms i j m hi hj, ← ht, List.getElem?_take_of_lt (by omega)]
    simp

/-- What a made term is worth, by its parts' values x, y, z and the first one's width. -/
def lv (m : Md) (env : List Int) (w0 x y z : Int) : Int :=
  if m.r.op = 1 then low m.w m.r.val else if m.r.op = 2 then low m.w (env.getD m.r.val.toNat 0)
  else if m.r.op = 16 then (if x = 1 then y else z) else if m.r.op = 17 ∨ m.r.op = 18 then low m.w x
  else doM m.r.op w0 (low w0 x) (low w0 y)
def tOf (ms : List Md) (i : Nat) : Int := (ms[i]?.map Md.t).getD 0
def wOf (ms : List Md) (i : Nat) : Int := (ms[i]?.map Md.w).getD 0
structure MdOk (ns : List Nd) (ms : List Md) (i : Nat) (m : Md) : Prop where
  t : isT ns m.t
  w : wdt ns m.t = m.w
  o0 : 1 ≤ m.r.op
  o1 : m.r.op ≤ 18
  rok : m.r.Ok
  p : 3 ≤ m.r.op → m.i0 < i ∧ m.i1 < i ∧ m.i2 < i
  v : ∀ env, V ns env m.t = lv m env (wOf ms m.i0) (V ns env (tOf ms m.i0)) (V ns env (tOf ms m.i1)) (V ns env (tOf ms m.i2))
def MadesOk (ns : List Nd) (ms : List Md) : Prop := ∀ i m, ms[i]? = some m → MdOk ns ms i m
theorem tOf_of {ms : List Md} {i : Nat} {m : Md} (h : ms[i]? = some m) : tOf ms i = m.t := by unfold tOf; rw [h]; rfl
theorem wOf_of {ms : List Md} {i : Nat} {m : Md} (h : ms[i]? = some m) : wOf ms i = m.w := by unfold wOf; rw [h]; rfl
theorem at_left {ms : List Md} {m : Md} {i : Nat} (h : i < ms.length) : (ms ++ [m])[i]? = ms[i]? := List.getElem?_append_left h
theorem MadesOk.nil (ns : List Nd) : MadesOk ns [] := fun i m h => by simp at h
theorem lv_congr {m : Md} {env : List Int} {w0 w0' x x' y y' z z' : Int} (ho : 1 ≤ m.r.op) (h : 3 ≤ m.r.op → w0 = w0' ∧ x = x' ∧ y = y' ∧ z = z') : lv m env w0 x y z = lv m env w0' x' y' z' := by
  by_cases h3 : 3 ≤ m.r.op
  · obtain ⟨rfl, rfl, rfl, rfl⟩ := h h3; rfl
  · unfold lv
    by_cases h1 : m.r.op = 1
    · rw [if_pos h1, if_pos h1]
    · have h2 : m.r.op = 2 := by omega
      rw [if_neg h1, if_neg h1, if_pos h2, if_pos h2]
theorem MdOk.congr {ns ns' : List Nd} {ms ms' : List Md} {i : Nat} {m : Md} (h : MdOk ns ms i m) (ht : isT ns' m.t) (hw : wdt ns' m.t = wdt ns m.t) (hv : ∀ env, V ns' env m.t = V ns env m.t)
    (hp : ∀ j, j < i → wOf ms' j = wOf ms j ∧ ∀ env, V ns' env (tOf ms' j) = V ns env (tOf ms j)) : MdOk ns' ms' i m :=
  ⟨ht, hw.trans h.w, h.o0, h.o1, h.rok, h.p, fun env => by
    rw [hv, h.v]
    refine lv_congr h.o0 fun h3 => ?_
    obtain ⟨p0, p1, p2⟩ := h.p h3
    exact ⟨(hp _ p0).1.symm, ((hp _ p0).2 env).symm, ((hp _ p1).2 env).symm, ((hp _ p2).2 env).symm⟩⟩
theorem MadesOk.at_ {ns : List Nd} {ms : List Md} (h : MadesOk ns ms) {j : Nat} (hj : j < ms.length) : ∃ m, ms[j]? = some m ∧ MdOk ns ms j m := ⟨ms[j], List.getElem?_eq_getElem hj, h j _ (List.getElem?_eq_getElem hj)⟩
theorem MadesOk.ext {W0 w w' : World} {ab : Nat} {ns ns' : List Nd} {Q : Nat → Prop} {ms : List Md} (h : MadesOk ns ms) (N : Nxt W0 w ab ns Q w' ns') : MadesOk ns' ms := fun i m hi => by
  have k := h i m hi
  have hil : i < ms.length := (List.getElem?_eq_some_iff.1 hi).1
  refine k.congr (N.isT k.t) (N.wdt k.t) (fun env => N.V env k.t) fun j hj => ⟨rfl, fun env => ?_⟩
  obtain ⟨mj, hmj, kj⟩ := h.at_ (show j < ms.length by omega)
  rw [tOf_of hmj]
  exact N.V env kj.t
theorem MadesOk.snoc {ns : List Nd} {ms : List Md} {m : Md} (h : MadesOk ns ms) (hm : MdOk ns ms ms.length m) : MadesOk ns (ms ++ [m]) := fun i k hi => by
  have tw : ∀ j, j < ms.length → tOf (ms ++ [m]) j = tOf ms j ∧ wOf (ms ++ [m]) j = wOf ms j := fun j hj => by unfold tOf wOf; rw [at_left hj]; exact ⟨rfl, rfl⟩
  by_cases hl : i < ms.length
  · rw [at_left hl] at hi
    exact (h i k hi).congr (h i k hi).t rfl (fun _ => rfl) fun j hj => ⟨(tw j (by omega)).2, fun env => by rw [(tw j (by omega)).1]⟩
  · rw [List.getElem?_append_right (by omega)] at hi
    have := (List.getElem?_eq_some_iff.1 hi).1
    simp at this
    have e : i = ms.length := by omega
    subst e
    simp at hi
    subst hi
    exact hm.congr hm.t rfl (fun _ => rfl) fun j hj => ⟨(tw j (by omega)).2, fun env => by rw [(tw j (by omega)).1]⟩
/-- Which widths the law has seen of each id, and the Vars that there are. -/
def VarsOk (ns : List Nd) (vs : List Int) : Prop := vs.length = 64 ∧ ∀ id : Nat, id < 64 → ∃ u, vs[id]? = some u ∧
  ((u = 0 ∧ ∀ (i : Nat) (m : Nd), ns[i]? = some m → m.op = 2 → m.val ≠ (id : Int)) ∨ (mayw u ∧ ∃ (i : Nat) (m : Nd), ns[i]? = some m ∧ m.op = 2 ∧ m.val = (id : Int) ∧ m.w = u))
theorem VarsOk.nil : VarsOk [] (List.replicate 64 0) := ⟨by simp, fun id hid => ⟨0, by rw [List.getElem?_replicate, if_pos hid], .inl ⟨rfl, fun i m h => by simp at h⟩⟩⟩
theorem VarsOk.ext {ns ns' : List Nd} {vs : List Int} (h : VarsOk ns vs) (he : ∃ l, ns' = ns ++ l) (hn : NV ns ns') : VarsOk ns' vs := by
  obtain ⟨l, rfl⟩ := he
  refine ⟨h.1, fun id hid => ?_⟩
  obtain ⟨u, hu, h1⟩ := h.2 id hid
  refine ⟨u, hu, ?_⟩
  rcases h1 with ⟨h0, h1⟩ | ⟨hm, i, m, hi, ho, hv, hw⟩
  · exact .inl ⟨h0, fun i m hi ho => h1 i m (hn i m hi ho) ho⟩
  · exact .inr ⟨hm, i, m, by rw [List.getElem?_append_left (List.getElem?_eq_some_iff.1 hi).1]; exact hi, ho, hv, hw⟩
/-- All Vars of one id have one width. -/
theorem VarsOk.width {W0 w : World} {ab : Nat} {ns : List Nd} {Q : Nat → Prop} {vs : List Int} (h : VarsOk ns vs) (C : Cur W0 w ab ns Q) {id : Nat} (hid : id < 64) {u : Int} (hu : vs[id]? = some u) (h0 : u ≠ 0) : ∀ (i : Nat) (m : Nd), ns[i]? = some m → m.op = 2 → m.val = (id : Int) → m.w = u := by
  obtain ⟨u', hu', h1⟩ := h.2 id hid
  obtain rfl : u = u' := Option.some.inj (hu.symm.trans hu')
  rcases h1 with ⟨hz, _⟩ | ⟨_, i, m, hi, ho, hv, hw⟩
  · exact absurd hz h0
  · intro j k hj hko hkv
    obtain ⟨foot, ⟨nv, iv, mv, vs', hvars, hat⟩, _⟩ := C
    rcases hvars.2 id hid with ⟨_, hz⟩ | ⟨i0, m0, hi0, _, _, _, huq⟩
    · exact absurd hkv (hz j k hj hko)
    · have e1 := huq j k hj hko hkv
      have e2 := huq i m hi ho hv
      subst e1; subst e2
      rw [hj] at hi; injection hi with hi; subst hi
      exact hw
theorem VarsOk.set {ns ns' : List Nd} {vs : List Int} {wd : Int} {id : Nat} {x : Int} (h : VarsOk ns vs) (hw : mayw wd) (he : ∃ l, ns' = ns ++ l) (hn : NVV ns ns' ⟨2, wd, id, 0, 0, 0⟩) (hx : nd ns' x = some ⟨2, wd, id, 0, 0, 0⟩) : VarsOk ns' (vs.set id wd) := by
  obtain ⟨l, rfl⟩ := he
  refine ⟨by rw [List.length_set]; exact h.1, fun k hk => ?_⟩
  by_cases e : k = id
  · subst e
    exact ⟨wd, by rw [List.getElem?_set_self (by rw [h.1]; exact hk)], .inr ⟨hw, _, _, (nd_pos hx).2.2, rfl, rfl, rfl⟩⟩
  · obtain ⟨u, hu, h1⟩ := h.2 k hk
    refine ⟨u, by rw [List.getElem?_set_ne (fun e' => e e'.symm)]; exact hu, ?_⟩
    rcases h1 with ⟨h0, h1⟩ | ⟨hm, i, m, hi, ho, hv, hw⟩
    · refine .inl ⟨h0, fun i m hi ho hv => ?_⟩
      rcases hn i m hi ho with hi | rfl
      · exact h1 i m hi ho hv
      · exact e (by have : (id : Int) = k := hv; omega)
    · exact .inr ⟨hm, i, m, by rw [List.getElem?_append_left (List.getElem?_eq_some_iff.1 hi).1]; exact hi, ho, hv, hw⟩
end Go.Proofs.YtgbmiphaabeodaaDoor
