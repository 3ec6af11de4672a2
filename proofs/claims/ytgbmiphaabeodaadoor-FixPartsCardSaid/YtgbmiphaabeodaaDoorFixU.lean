/-
  What the laws FixPuts and FixParts lay in memory; what Some answers is worth.
-/
import Derived.Test.YtgbmiphaabeodaaDoorTermBuildAll
import Derived.Test.YtgbmiphaabeodaaDoorTermZ
import Derived.Test.YtgbmiphaabeodaaDoorTermO
import Derived.Test.YtgbmiphaabeodaaDoorFixB
import Derived.Test.YtgbmiphaabeodaaDoorFixT
import Derived.Test.YtgbmiphaabeodaaDoorFixC
import Derived.Deep.OwnRows
import Derived.Laws.AppendOwnNone
namespace Go.Proofs.YtgbmiphaabeodaaDoor
open Go.ChangeShapes Go.WideShapes Go.ChangeAt Go.RowKit
set_option linter.unusedVariables false
attribute [local go_sem ↓] Go.wp_at_zero Go.wp_at_succ

theorem nums_row {k : IntKind} {w : World} {base : Nat} {e : TypeId} {A : Option Addr} {n cap : Nat} {zs : List Int} (h : w.ownsRow base e 1 (.slice A n cap) n (zs.map (Value.int k))) (hw : ∀ z ∈ zs, (Lit.int k z).wf = true) : NumsAt k w A zs := by
  have hxn : zs.length = n := by have := h.1; simpa using this
  rcases h.2 with ⟨e, h0⟩ | ⟨g, cap', cur, e, _, hh, hn, hc, hsz, ht⟩
  · injection e with e1 _ _
    subst e1
    have : zs = [] := List.length_eq_zero_iff.1 (by omega)
    subst this
    exact ⟨fun i v hv => by simp at hv, (fun a ha => by cases ha), hw⟩
  · injection e with e1 e2 e3
    subst e1
    refine ⟨fun i v hv => ⟨_, rfl, ?_⟩, (fun a ha => by injection ha with ha; subst ha; exact lt_of_heap hh), hw⟩
    have hx : Has w g _ cur := hh
    have hi : i < zs.length := (List.getElem?_eq_some_iff.1 hv).1
    have : (zs.map (Value.int k))[i]? = some (.int k v) := by rw [List.getElem?_map, hv]; rfl
    rw [show (⟨g, 0, none⟩ : Addr).add i = ⟨g, i, none⟩ from (by simp only [Addr.add]; simp; exact fun e => e.symm), hx.cell, ← this, ← ht, List.getElem?_take_of_lt (by omega)]
    simp
/-- Which ids are marked. -/
def ba (p : Nat → Bool) : Array Value := ⟨(List.range 64).map fun j => .bool (p j)⟩
theorem ba_at {w : World} {ib : Nat} {p : Nat → Bool} (h : Has w ib 39 (ba p)) {j : Nat} (hj : j < 64) : w.cell? ⟨ib, j, none⟩ = some (.bool (p j)) := by
  rw [h.cell]; simp [ba, hj]
theorem ba_set (p : Nat → Bool) {j : Nat} (hj : j < 64) : (ba p).setIfInBounds j (.bool true) = ba (fun i => p i || decide (i = j)) := by
  apply Array.ext'
  rw [Array.toList_setIfInBounds]
  show ((List.range 64).map fun i => Value.bool (p i)).set j (.bool true) = (List.range 64).map fun i => Value.bool (p i || decide (i = j))
  refine List.ext_getElem (by simp) fun i h1 h2 => ?_
  rw [List.getElem_set]
  by_cases e : j = i
  · subst e; simp
  · rw [if_neg e]; simp; intro h; exact absurd h.symm e
theorem zero_in (w : World) : (zeroValue 39).run Tryd.prog w = .ok (.agg (ba fun _ => false)) w := by kernel_rfl
def ua (xs : List Int) : Array Value := ⟨xs.map (Value.int .u16)⟩
theorem ua_set (xs : List Int) (j : Nat) (x : Int) : (ua xs).setIfInBounds j (.int .u16 x) = ua (xs.set j x) := by simp [ua, List.map_set]
def z64 : List Int := List.replicate 64 0
theorem make64 (w : World) : (Instr.makeSlice 23 (.int .i64 64) (.int .i64 64)).run Tryd.prog w = .ok (.slice (some ⟨w.heap.size, 0, none⟩) 64 64) (w.alloc (.cells (ua (z64)) 24)) := by kernel_rfl
structure Lst (w : World) (b : Nat) (xs : List Int) : Prop where
  has : Has w b 24 (ua xs)
  len : xs.length = 64
  rng : ∀ v ∈ xs, 0 ≤ v ∧ v ≤ 65535
theorem Lst.at {w : World} {b : Nat} {xs : List Int} (h : Lst w b xs) {j : Nat} (hj : j < 64) : w.cell? ⟨b, j, none⟩ = some (.int .u16 (xs.getD j 0)) ∧ 0 ≤ xs.getD j 0 ∧ xs.getD j 0 ≤ 65535 := by
  have hl := h.len
  have hx : xs[j]? = some (xs[j]'(by omega)) := List.getElem?_eq_getElem (by omega)
  refine ⟨?_, ?_⟩
  · rw [h.has.cell]; simp [ua, hx, List.getD_eq_getElem?_getD]
  · rw [List.getD_eq_getElem?_getD, hx]; exact h.rng _ (List.getElem_mem _)
theorem Lst.put {w : World} {b : Nat} {xs : List Int} (h : Lst w b xs) (j : Nat) {x : Int} (h0 : 0 ≤ x) (h1 : x ≤ 65535) : Lst (w.setCell ⟨b, j, none⟩ (.int .u16 x)) b (xs.set j x) :=
  ⟨by rw [← ua_set]; exact h.has.put j _, by rw [List.length_set]; exact h.len, fun v hv => by
    rcases List.mem_or_eq_of_mem_set hv with h2 | rfl
    · exact h.rng v h2
    · exact ⟨h0, h1⟩⟩
theorem Lst.same {w w' : World} {b : Nat} {xs : List Int} (h : Lst w b xs) (e : w'.heap[b]? = w.heap[b]?) : Lst w' b xs := ⟨h.has.same e, h.len, h.rng⟩
theorem Lst.env {w : World} {b : Nat} {xs : List Int} (h : Lst w b xs) : EnvAt w (some ⟨b, 0, none⟩) xs :=
  env_own h.has xs (fun i v hv => by simp [ua, hv]) h.rng (by rw [h.len]; decide)
theorem rowv_at {w : World} {base : Nat} {e : TypeId} {n : Nat} {v : Value} {xs : List Value} (h : w.ownsRow base e 1 v n xs) {i : Nat} {u : Value} (hu : xs[i]? = some u) :
    ∃ (g cap : Nat), v = .slice (some ⟨g, 0, none⟩) n cap ∧ g < w.heap.size ∧ n ≤ cap ∧ cap ≤ maxLen ∧ w.cell? ⟨g, i, none⟩ = some u := by
  have hl : i < n := by have := (List.getElem?_eq_some_iff.1 hu).1; have := h.1; omega
  rcases h.2 with ⟨_, h0⟩ | ⟨g, cap, cur, rfl, _, hh, hn, hc, hsz, ht⟩
  · omega
  · refine ⟨g, cap, rfl, lt_of_heap hh, hn, hc, ?_⟩
    have hx : Has w g e cur := hh
    rw [hx.cell, ← hu, ← ht, List.getElem?_take_of_lt (by omega)]
    simp
/-- The law's own assignment, its first j numbers laid. -/
def en (i : Nat) : Int := (((i * 7919 + 13) % 65536 : Nat) : Int)
def evz (j : Nat) : List Int := (List.range 64).map fun i => if i < j then en i else 0
theorem evz_len (j : Nat) : (evz j).length = 64 := by simp [evz]
theorem evz_zero : evz 0 = z64 := by decide
theorem evz_rng (j : Nat) : ∀ v ∈ evz j, 0 ≤ v ∧ v ≤ 65535 := fun v hv => by
  obtain ⟨i, _, rfl⟩ := List.mem_map.1 hv
  split
  · unfold en; omega
  · omega
theorem evz_succ {j : Nat} (hj : j < 64) : (evz j).set j (en j) = evz (j + 1) := by
  refine List.ext_getElem (by simp [evz]) fun i h1 h2 => ?_
  rw [List.getElem_set]
  by_cases e : j = i
  · subst e; simp [evz]
  · rw [if_neg e]
    simp only [evz, List.getElem_map, List.getElem_range]
    by_cases h : i < j
    · rw [if_pos h, if_pos (by omega)]
    · rw [if_neg h, if_neg (by omega)]
theorem en_wrap (j : Nat) : IntKind.u16.wrap ((j : Int) * 7919 + 13) = en j := by
  rw [IntKind.wrap_u16]; unfold en; omega
/-- What it is with the numbers that are put. -/
def pv (g : Nat → Option Int) : List Int := (List.range 64).map fun i => (g i).getD ((evz 64).getD i 0)
theorem pv_len (g : Nat → Option Int) : (pv g).length = 64 := by simp [pv]
theorem pv_none : pv (fun _ => none) = evz 64 := by decide
theorem evz_getD (i : Nat) : 0 ≤ (evz 64).getD i 0 ∧ (evz 64).getD i 0 ≤ 65535 := by
  by_cases hi : i < (evz 64).length
  · rw [List.getD_eq_getElem?_getD, List.getElem?_eq_getElem hi]; exact evz_rng 64 _ (List.getElem_mem hi)
  · rw [List.getD_eq_getElem?_getD, List.getElem?_eq_none (by omega)]; decide
theorem pv_rng {g : Nat → Option Int} (hg : GOk g) : ∀ v ∈ pv g, 0 ≤ v ∧ v ≤ 65535 := fun v hv => by
  obtain ⟨i, _, rfl⟩ := List.mem_map.1 hv
  cases h : g i with
  | none => exact evz_getD i
  | some u => exact (hg i u h).2
theorem pv_agree (g : Nat → Option Int) : Tr.Agree g (evz 64) (pv g) := fun i hi => by
  have : (pv g).getD i 0 = (g i).getD ((evz 64).getD i 0) := by
    rw [List.getD_eq_getElem?_getD]
    simp [pv, hi]
  rw [this]; cases g i <;> simp
theorem pv_put {g : Nat → Option Int} {id : Nat} (hid : id < 64) (v : Int) : (pv g).set id v = pv (fun i => if i = id then some v else g i) := by
  refine List.ext_getElem (by simp [pv]) fun i h1 h2 => ?_
  rw [List.getElem_set]
  by_cases e : id = i
  · subst e; simp [pv]
  · rw [if_neg e]
    have : ¬ i = id := fun h => e h.symm
    simp [pv, this]
/-- The numbers that are put, and which, as they lie. -/
structure PR (w3 wr : World) (pb hb : Nat) (g : Nat → Option Int) : Prop where
  put : ∃ cur, Has wr pb 24 cur ∧ 64 ≤ cur.size ∧ cur.toList.take 64 = (pv g).map (Value.int .u16)
  has : Has wr hb 39 (ba fun i => (g i).isSome)
  pge : w3.heap.size < pb
  hge : w3.heap.size < hb
  below : Below w3.heap.size w3 wr
  ok : GOk g
section
variable {w3 wr W : World} {pb hb : Nat} {g : Nat → Option Int}
theorem PR.ne (h : PR w3 wr pb hb g) : pb ≠ hb := by
  obtain ⟨cur, hc, _⟩ := h.put
  exact hc.unlike h.has (by decide)
theorem PR.plt (h : PR w3 wr pb hb g) : pb < wr.heap.size := by
  obtain ⟨cur, hc, _⟩ := h.put; exact hc.lt
theorem PR.pfree (h : PR w3 wr pb hb g) (i : Nat) : wr.frozen? ⟨pb, i, none⟩ = false := by
  obtain ⟨cur, hc, _⟩ := h.put; exact hc.free i
theorem PR.pcell (h : PR w3 wr pb hb g) {i : Nat} (hi : i < 64) : ∃ u, wr.cell? ⟨pb, i, none⟩ = some u := by
  obtain ⟨cur, hc, h1, _⟩ := h.put
  rw [hc.cell]
  exact ⟨_, Array.getElem?_eq_getElem (show i < cur.size by omega)⟩
theorem PR.step (h : PR w3 wr pb hb g) {id : Nat} (hid : id < 64) (v : Int) (hok : GOk (fun i => if i = id then some v else g i))
    (he : W.heap = ((wr.setCell ⟨hb, id, none⟩ (.bool true)).setCell ⟨pb, id, none⟩ (.int .u16 v)).heap ∨ W.heap = ((wr.setCell ⟨pb, id, none⟩ (.int .u16 v)).setCell ⟨hb, id, none⟩ (.bool true)).heap) (h1 : W.os = wr.os) (h2 : W.tape = wr.tape) (h3 : W.output = wr.output) : PR w3 W pb hb (fun i => if i = id then some v else g i) := by
  obtain ⟨cur, hc, k1, k2⟩ := h.put
  have hne := h.ne
  have key : ∀ W : World, Has W pb 24 (cur.setIfInBounds id (.int .u16 v)) → Has W hb 39 ((ba fun i => (g i).isSome).setIfInBounds id (.bool true)) → Below w3.heap.size w3 W → PR w3 W pb hb (fun i => if i = id then some v else g i) := fun W a b c => by
    refine ⟨⟨_, a, by simpa using k1, ?_⟩, ?_, h.pge, h.hge, c, hok⟩
    · rw [Array.toList_setIfInBounds, List.take_set, k2, ← pv_put hid, List.map_set]
    · rw [ba_set _ hid] at b
      rw [show (fun i => ((fun i => if i = id then some v else g i) i).isSome) = fun i => (g i).isSome || decide (i = id) from funext fun i => by
        by_cases e : i = id <;> simp [e]]
      exact b
  rcases he with he | he
  · refine key W ?_ ?_ (below_alike3 ((h.below.setCell (p := ⟨hb, id, none⟩) (Nat.le_of_lt h.hge) (.bool true)).setCell (p := ⟨pb, id, none⟩) (Nat.le_of_lt h.pge) (.int .u16 v)) he h1 h2 h3)
    · exact ((hc.same (set_other (p := ⟨hb, id, none⟩) hne)).put id _).same (by rw [he])
    · exact ((h.has.put id (.bool true)).same (set_other (p := ⟨pb, id, none⟩) hne.symm)).same (by rw [he])
  · refine key W ?_ ?_ (below_alike3 ((h.below.setCell (p := ⟨pb, id, none⟩) (Nat.le_of_lt h.pge) (.int .u16 v)).setCell (p := ⟨hb, id, none⟩) (Nat.le_of_lt h.hge) (.bool true)) he h1 h2 h3)
    · exact ((hc.put id (.int .u16 v)).same (set_other (p := ⟨hb, id, none⟩) hne)).same (by rw [he])
    · exact ((h.has.same (set_other (p := ⟨pb, id, none⟩) hne.symm)).put id _).same (by rw [he])
theorem PR.lst (h : PR w3 wr pb hb g) {xs : List Int} (L : Lst wr w3.heap.size xs) (i j : Nat) (u v : Value) : Lst ((wr.setCell ⟨hb, i, none⟩ u).setCell ⟨pb, j, none⟩ v) w3.heap.size xs :=
  L.same ((set_other (p := ⟨pb, j, none⟩) (Nat.ne_of_lt h.pge)).trans (set_other (p := ⟨hb, i, none⟩) (Nat.ne_of_lt h.hge)))
theorem PR.env (h : PR w3 wr pb hb g) : EnvAt wr (some ⟨pb, 0, none⟩) (pv g) := by
  obtain ⟨cur, hc, k1, k2⟩ := h.put
  refine env_own hc (pv g) (fun i v hv => ?_) (pv_rng h.ok) (by rw [pv_len]; decide)
  have hi : i < 64 := by have := (List.getElem?_eq_some_iff.1 hv).1; rw [pv_len] at this; exact this
  have : ((pv g).map (Value.int .u16))[i]? = some (.int .u16 v) := by rw [List.getElem?_map, hv]; rfl
  rw [← k2, List.getElem?_take_of_lt hi] at this
  simpa using this
end
/-- What holds at each round's head of the law's last loop. -/
structure LB (K : Nat) (w1 w4 wr : World) (ab : Nat) (ns : List Nd) (Q : Nat → Prop) (k : Nat) (nsk : List Nd) : Prop where
  cur : Cur w1 wr ab nsk Q
  ext : ∃ l, nsk = ns ++ l
  len : nsk.length ≤ ns.length + k * K
  q : ∀ b, Q b → wr.heap[b]? = w4.heap[b]?
  sz : w4.heap.size ≤ wr.heap.size
theorem LB.next {K : Nat} {w1 w4 wr w' : World} {ab : Nat} {ns nsk nsk' : List Nd} {Q : Nat → Prop} {k : Nat} (h : LB K w1 w4 wr ab ns Q k nsk) (N : NxtK K w1 wr ab nsk Q w' nsk') : LB K w1 w4 w' ab ns Q (k + 1) nsk' :=
  ⟨N.cur, by
    obtain ⟨l, rfl⟩ := h.ext
    obtain ⟨m, rfl⟩ := N.ext
    exact ⟨l ++ m, by rw [List.append_assoc]⟩, by have := h.len; have := N.len; rw [Nat.add_mul, Nat.one_mul]; omega, fun b hb => (N.q b hb).trans (h.q b hb), Nat.le_trans h.sz N.sz⟩
theorem LB.below {K : Nat} {w1 w4 wr w' : World} {ab : Nat} {ns nsk : List Nd} {Q : Nat → Prop} {k : Nat} (h : LB K w1 w4 wr ab ns Q k nsk) (hb : Below wr.heap.size wr w') : LB K w1 w4 w' ab ns Q k nsk :=
  ⟨h.cur.below hb, h.ext, h.len, fun b hq => (hb.block b (h.cur.q_lt b hq)).trans (h.q b hq), Nat.le_trans h.sz hb.size⟩
theorem LB.alike {K : Nat} {w1 w4 wr W : World} {ab : Nat} {ns nsk : List Nd} {Q : Nat → Prop} {k : Nat} (h : LB K w1 w4 wr ab ns Q k nsk) (he : W.heap = wr.heap) (h1 : W.os = wr.os) (h2 : W.tape = wr.tape) (h3 : W.output = wr.output) : LB K w1 w4 W ab ns Q k nsk :=
  h.below ⟨h1, h2, h3, by rw [he]; exact Nat.le_refl _, fun k _ => by rw [he]⟩
theorem LB.on {K : Nat} {w1 w4 wr W we : World} {ab : Nat} {ns nsk : List Nd} {Q : Nat → Prop} {k : Nat} (h : LB K w1 w4 wr ab ns Q k nsk) (hb : Below W.heap.size W we) (he : W.heap = wr.heap) (h1 : W.os = wr.os) (h2 : W.tape = wr.tape) (h3 : W.output = wr.output) : LB K w1 w4 we ab ns Q k nsk := (h.alike he h1 h2 h3).below hb
theorem PR.start {w3 wp : World} {v1 : Value} {B : Nat} (b : Below w3.heap.size w3 wp) (h : wp.ownsRow B 24 1 v1 64 ((evz 64).map (Value.int .u16))) (hB : w3.heap.size < B) (hB2 : B ≤ wp.heap.size) :
    ∃ pb cap, v1 = .slice (some ⟨pb, 0, none⟩) 64 cap ∧ 64 ≤ cap ∧ cap ≤ 9223372036854775807 ∧ PR w3 (wp.alloc (.cells (ba fun _ => false) 39)) pb wp.heap.size (fun _ => none) := by
  rcases h.2 with ⟨_, h0⟩ | ⟨g, cap, cur, rfl, hb, hh, hn, hc, hsz, ht⟩
  · omega
  · have hx : Has wp g 24 cur := hh
    unfold maxLen at hc
    rw [Nat.mul_one] at hsz ht
    exact ⟨g, cap, rfl, hn, by omega, ⟨cur, hx.same (alloc_other hx.lt), by omega, by rw [pv_none]; exact ht⟩, Has.new wp _ _, by omega, by omega, b.alloc b.size _, fun i v h => by cases h⟩
def allg (g : Nat → Option Int) (l : List Nat) : Bool := l.all fun i => (g i).isSome
theorem allg_succ {g : Nat → Option Int} {l : List Nat} {q : Nat} (h : q < l.length) : allg g (l.take (q + 1)) = (allg g (l.take q) && (g l[q]).isSome) := by
  unfold allg; rw [List.take_succ_eq_append_getElem h, List.all_append]; simp
/-- What Some's answer is worth. -/
theorem put_worth {ns nsk nsk' : List Nd} {x y : Int} {g : Nat → Option Int} (hwf : WF ns) (hwk : WF nsk) (hwf' : WF nsk') (hx : isT ns x) (hext : ∃ l, nsk = ns ++ l) (hy : isT nsk' y) (e : tr nsk' y = (tr nsk x).sub g) : wdt nsk' y = wdt ns x ∧ V nsk' (evz 64) y = V ns (pv g) x := by
  have hk : tr nsk x = tr ns x := (ext_tr hwk hext hx).2
  have so := Tr.sub_ok g (tr_wf hwk x)
  constructor
  · rw [← tr_w hwf' y, e, so.w, hk, tr_w hwf]
  · rw [← tr_ev hwf' (evz 64) y, e, so.ev (evz 64) (pv g) (pv_agree g), hk, tr_ev hwf]
theorem put_known {nsk nsk' : List Nd} {x y : Int} {g : Nat → Option Int} (hwk : WF nsk) (hwf' : WF nsk') (hx : isT nsk x) (hy : isT nsk' y) (e : tr nsk' y = (tr nsk x).sub g) (hall : ∀ i ∈ bl (Iv nsk x), (g i).isSome = true) : isC nsk' y := by
  have hk := Tr.sub_const g (tr_wf hwk x) (fun i hi hb => by
    have := hall i (mem_bl.2 ⟨hi, by rw [← tr_iv hwk]; exact hb⟩)
    intro h; rw [h] at this; cases this)
  rw [← e] at hk
  exact (tr_kid hwf' y).1 hk hy
end Go.Proofs.YtgbmiphaabeodaaDoor
