/-
  What the law FixParts lays in memory, and what holds in its loops.
-/
import Derived.Test.YtgbmiphaabeodaaDoorFixU
import Derived.Test.YtgbmiphaabeodaaDoorFixK
namespace Go.Proofs.YtgbmiphaabeodaaDoor
open Go.ChangeShapes Go.WideShapes Go.ChangeAt Go.RowKit
set_option linter.unusedVariables false
attribute [local go_sem ↓] Go.wp_at_zero Go.wp_at_succ

/-- The law's own assignment, its first j numbers laid. -/
def em (i : Nat) : Int := (((i * 31 + 5) % 65536 : Nat) : Int)
def evy (j : Nat) : List Int := (List.range 64).map fun i => if i < j then em i else 0
theorem evy_len (j : Nat) : (evy j).length = 64 := by simp [evy]
theorem evy_zero : evy 0 = z64 := by decide
theorem evy_rng (j : Nat) : ∀ v ∈ evy j, 0 ≤ v ∧ v ≤ 65535 := fun v hv => by
  obtain ⟨i, _, rfl⟩ := List.mem_map.1 hv
  split
  · unfold em; omega
  · omega
theorem evy_succ {j : Nat} (hj : j < 64) : (evy j).set j (em j) = evy (j + 1) := by
  refine List.ext_getElem (by simp [evy]) fun i h1 h2 => ?_
  rw [List.getElem_set]
  by_cases e : j = i
  · subst e; simp [evy]
  · rw [if_neg e]
    simp only [evy, List.getElem_map, List.getElem_range]
    by_cases h : i < j
    · rw [if_pos h, if_pos (by omega)]
    · rw [if_neg h, if_neg (by omega)]
theorem em_wrap (j : Nat) : IntKind.u16.wrap ((j : Int) * 31 + 5) = em j := by
  rw [IntKind.wrap_u16]; unfold em; omega
/-- The ids that the law lays. -/
def al (ids : List Int) : List Int := ids.map fun z => z.tmod 64
theorem al_take {ids : List Int} {k : Nat} {z : Int} (h : ids[k]? = some z) : al (ids.take (k + 1)) = al (ids.take k) ++ [z.tmod 64] := by
  obtain ⟨hk, hk'⟩ := List.getElem?_eq_some_iff.1 h
  unfold al
  rw [List.take_succ_eq_append_getElem hk, hk', List.map_append]; rfl
structure AR (w3 wr : World) (v : Value) (l : List Int) : Prop where
  row : wr.ownsRow w3.heap.size 3 1 v l.length (l.map (Value.int .i64))
  below : Below w3.heap.size w3 wr
  env : Lst wr w3.heap.size (evy 64)
theorem AR.blk {w3 wr : World} {v : Value} {l : List Int} (h : AR w3 wr v l) {g : Nat} (e : Value.ownBlock v = some g) : w3.heap.size < g := by
  obtain ⟨cur, hc⟩ := row_block h.row e
  have h1 : g ≠ w3.heap.size := hc.unlike h.env.has (by decide)
  rcases h.row.2 with ⟨e2, _⟩ | ⟨g', c', cur, e2, hge, _⟩
  · rw [e2] at e; cases e
  · rw [e2] at e
    have : g' = g := by simpa [Value.ownBlock] using e
    omega
theorem AR.step {w3 wr w1 : World} {I : Option Addr} {l : List Int} {j icap g1 c1 : Nat} {o1 : Obj} {x : Int} (h : AR w3 wr (.slice I j icap) l) (hj : l.length = j)
    (h1 : w1.ownsRow w3.heap.size 3 1 (.slice (some ⟨g1, 0, none⟩) (j + 1) c1) (j + 1) (l.map (Value.int .i64) ++ [.int .i64 x])) (k1 : (wr.alloc o1).grownBy w1 (Value.ownBlock (.slice I j icap))) :
    AR w3 w1 (.slice (some ⟨g1, 0, none⟩) (j + 1) c1) (l ++ [x]) := by
  have s0 := h.below.size
  refine ⟨by rw [List.length_append, hj, List.map_append]; exact h1, (h.below.alloc s0 o1).grown k1 (by simp; omega) (fun k e => Nat.le_of_lt (h.blk e)), ?_⟩
  exact h.env.same ((k1.block _ (by have := h.env.has.lt; simp; omega) (fun e => by have := h.blk e.symm; omega)).trans (alloc_other h.env.has.lt))
/-- What holds at each round's head of the law's last loops. -/
structure LQ (w1 w4 wr : World) (ab : Nat) (ns : List Nd) (Q : Nat → Prop) (G : List (List (Nat → Option Int))) (nsk : List Nd) : Prop where
  cur : Cur w1 wr ab nsk Q
  ext : ∃ l, nsk = ns ++ l
  cnt : Cnt ns nsk G
  q : ∀ b, Q b → wr.heap[b]? = w4.heap[b]?
  sz : w4.heap.size ≤ wr.heap.size
section
variable {w1 w4 wr w' W we : World} {ab : Nat} {ns nsk nsk' : List Nd} {Q : Nat → Prop} {G : List (List (Nat → Option Int))} {gs : List (Nat → Option Int)} {g : Nat → Option Int} {x y : Int}
theorem Cur.once1 {W0 w : World} (h : Cur W0 w ab nsk Q) : ∀ (i j : Nat) (n : Nd), nsk[i]? = some n → nsk[j]? = some n → i = j := by
  obtain ⟨foot, a, _⟩ := h; exact a.once
theorem LQ.len (h : LQ w1 w4 wr ab ns Q G nsk) : nsk.length ≤ G.length * ns.length := h.cnt.len h.cur.wf h.cur.once1
theorem LQ.next {K : Nat} (h : LQ w1 w4 wr ab ns Q G nsk) (N : NxtK K w1 wr ab nsk Q w' nsk') (hwf : WF ns) (hy : tr nsk y = subs (tr ns x) gs) (hg : gs ++ [g] ∈ G) (np : NewP nsk nsk' y g) : LQ w1 w4 w' ab ns Q G nsk' :=
  ⟨N.cur, by
    obtain ⟨l, rfl⟩ := h.ext
    obtain ⟨m, rfl⟩ := N.ext
    exact ⟨l ++ m, by rw [List.append_assoc]⟩, h.cnt.next hwf h.cur.wf N.cur.wf N.ext hy hg np, fun b hb => (N.q b hb).trans (h.q b hb), Nat.le_trans h.sz N.sz⟩
theorem LQ.below (h : LQ w1 w4 wr ab ns Q G nsk) (hb : Below wr.heap.size wr w') : LQ w1 w4 w' ab ns Q G nsk :=
  ⟨h.cur.below hb, h.ext, h.cnt, fun b hq => (hb.block b (h.cur.q_lt b hq)).trans (h.q b hq), Nat.le_trans h.sz hb.size⟩
theorem LQ.alike (h : LQ w1 w4 wr ab ns Q G nsk) (he : W.heap = wr.heap) (h1 : W.os = wr.os) (h2 : W.tape = wr.tape) (h3 : W.output = wr.output) : LQ w1 w4 W ab ns Q G nsk :=
  h.below ⟨h1, h2, h3, by rw [he]; exact Nat.le_refl _, fun k _ => by rw [he]⟩
theorem LQ.on (h : LQ w1 w4 wr ab ns Q G nsk) (hb : Below W.heap.size W we) (he : W.heap = wr.heap) (h1 : W.os = wr.os) (h2 : W.tape = wr.tape) (h3 : W.output = wr.output) : LQ w1 w4 we ab ns Q G nsk := (h.alike he h1 h2 h3).below hb
end
/-- Which numbers were put in, one behind another or at once. -/
def gl (l : List (Int × Int)) : List (Nat → Option Int) := l.map fun p => gof [p]
def GG (l : List (Int × Int)) : List (List (Nat → Option Int)) := [gof l] :: (List.range (l.length + 1)).map fun k => (gl l).take k
theorem GG_len (l : List (Int × Int)) : (GG l).length = l.length + 2 := by simp [GG]
theorem GG_nil (l : List (Int × Int)) : [] ∈ GG l := List.mem_cons_of_mem _ (List.mem_map.2 ⟨0, List.mem_range.2 (by omega), rfl⟩)
theorem GG_all (l : List (Int × Int)) : [] ++ [gof l] ∈ GG l := List.mem_cons_self ..
theorem gl_take {l : List (Int × Int)} {q : Nat} {p : Int × Int} (h : l[q]? = some p) : (gl l).take (q + 1) = (gl l).take q ++ [gof [p]] := by
  obtain ⟨hk, hk'⟩ := List.getElem?_eq_some_iff.1 h
  rw [List.take_succ_eq_append_getElem (by simpa [gl] using hk)]
  simp [gl, hk']
theorem GG_take {l : List (Int × Int)} {q : Nat} {p : Int × Int} (h : l[q]? = some p) : (gl l).take q ++ [gof [p]] ∈ GG l := by
  rw [← gl_take h]
  exact List.mem_cons_of_mem _ (List.mem_map.2 ⟨q + 1, List.mem_range.2 (by have := (List.getElem?_eq_some_iff.1 h).1; omega), rfl⟩)
theorem parts_worth {ns n1 n2 : List Nd} {x X Y : Int} {l : List (Int × Int)} (hwf : WF ns) (hw2 : WF n2) (hX : tr n2 X = (tr ns x).sub (gof l)) (hY : tr n2 Y = subs (tr ns x) (gl l)) : V n2 (evy 64) X = V n2 (evy 64) Y := by
  have h0 := tr_wf hwf x
  rw [← tr_ev hw2, ← tr_ev hw2, hX, hY, subs_ev _ _ h0, (Tr.sub_ok (gof l) h0).ev _ _ (pat_agree _ _), pat_one l _ (evy_len 64)]
  rfl
def SzI (w : World) (e : Ending) (w' : World) : Prop := ∃ n : Int, e = .returned (.int .i64 n) ∧ 1 ≤ n ∧ Below w.heap.size w w'
theorem size_in (w1 w : World) (ab : Nat) (ns : List Nd) (Q : Nat → Prop) (x : Int) (C : Cur w1 w ab ns Q) (hx : isT ns x) :
    Calls Tryd.prog 16 #[ptr ab, .int .i64 x] w (SzI w) := by
  obtain ⟨foot, a, _⟩ := C
  refine (size_yes w ab ns foot x a hx).mono ?_
  rintro e w' ⟨ls, rfl, hw, hb⟩
  exact ⟨_, rfl, by have := wl_pos hw; omega, hb⟩
theorem u8_wf {a : Int} (h : (Lit.int .u8 a).wf = true) : 0 ≤ a ∧ a ≤ 255 := by
  simp [Lit.wf, IntKind.min, IntKind.max, IntKind.signed, IntKind.bits] at h
  omega
theorem rem_to (a : Int) (h0 : 0 ≤ a) : ∃ k : Nat, a.tmod 64 = k ∧ k < 64 := by
  have h1 := Int.tmod_nonneg 64 h0
  have h2 := Int.tmod_lt_of_pos a (b := 64) (by omega)
  exact ⟨(a.tmod 64).toNat, by omega, by omega⟩
theorem nums_one {k : IntKind} {w : World} {A : Option Addr} {zs : List Int} (h : NumsAt k w A zs) {q : Nat} {z : Int} (hz : zs[q]? = some z) : ∃ a, A = some a ∧ NumsAt k w (some (a.add q)) [z] := by
  obtain ⟨a, ha, hc⟩ := h.get q z hz
  refine ⟨a, ha, fun i v hv => ⟨_, rfl, ?_⟩, fun b hb => ?_, fun v hv => ?_⟩
  · have hi := (List.getElem?_eq_some_iff.1 hv).1
    obtain rfl : i = 0 := by simpa using hi
    have : z = v := by simpa using hv
    subst this
    rw [show (a.add q).add 0 = a.add q by simp [Addr.add]]; exact hc
  · injection hb with hb; subst hb; rw [add_block]; exact h.lt a ha
  · have : v = z := by simpa using hv
    subst this; exact h.wf v (List.mem_of_getElem? hz)
theorem env_one {w : World} {A : Option Addr} {zs : List Int} (h : EnvAt w A zs) {q : Nat} {z : Int} (hz : zs[q]? = some z) : ∃ a, A = some a ∧ EnvAt w (some (a.add q)) [z] := by
  obtain ⟨a, ha, hc⟩ := h.get q z hz
  refine ⟨a, ha, fun i v hv => ⟨_, rfl, ?_⟩, fun b hb => ?_, fun v hv => ?_, by simp⟩
  · have hi := (List.getElem?_eq_some_iff.1 hv).1
    obtain rfl : i = 0 := by simpa using hi
    have : z = v := by simpa using hv
    subst this
    rw [show (a.add q).add 0 = a.add q by simp [Addr.add]]; exact hc
  · injection hb with hb; subst hb; rw [add_block]; exact h.lt a ha
  · have : v = z := by simpa using hv
    subst this; exact h.rng v (List.mem_of_getElem? hz)
end Go.Proofs.YtgbmiphaabeodaaDoor
