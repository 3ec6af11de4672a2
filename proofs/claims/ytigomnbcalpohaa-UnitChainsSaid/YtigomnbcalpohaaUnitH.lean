/-
  Chains that follow one from another: what follows, and how a law lays them.
-/
import Derived.Test.YtigomnbcalpohaaUnitQ
import Derived.Test.YtigomnbcalpohaaUnitA
import Derived.Test.YtigomnbcalpohaaUnitC
namespace Go.Proofs.Ytigomnbcalpohaa
open Go.ChangeShapes Go.WideShapes Go.ChangeAt Go.RowKit
set_option linter.unusedVariables false

/-! ### Chains -/
def lnk (j : Nat) : List Int := [-(j : Int), (j : Int) + 1]
def ch (j : Nat) : List (List Int) := [1] :: (List.range (j - 1)).map fun i => lnk (i + 1)
theorem ch_succ {j : Nat} (h : 1 ≤ j) : ch (j + 1) = ch j ++ [lnk j] := by
  unfold ch
  rw [show j + 1 - 1 = (j - 1) + 1 by omega, List.range_succ, List.map_append, List.cons_append]
  simp [show j - 1 + 1 = j by omega]
theorem ch_len {j : Nat} (h : 1 ≤ j) : (ch j).length = j := by unfold ch; simp; omega
theorem ch_mem {j : Nat} (c : List Int) : c ∈ ch j ↔ c = [1] ∨ ∃ i, i < j - 1 ∧ c = lnk (i + 1) := by
  unfold ch
  simp only [List.mem_cons, List.mem_map, List.mem_range]
  constructor
  · rintro (h | ⟨i, hi, h⟩)
    · exact .inl h
    · exact .inr ⟨i, hi, h.symm⟩
  · rintro (h | ⟨i, hi, h⟩)
    · exact .inl h
    · exact .inr ⟨i, hi, h.symm⟩
theorem ch_ok {k : Nat} (h : 1 ≤ k) : FOk k (ch k) := by
  intro c hc l hl
  rcases (ch_mem c).1 hc with rfl | ⟨i, hi, rfl⟩
  · simp at hl; subst hl; unfold LOk; omega
  · simp [lnk] at hl
    unfold LOk
    rcases hl with rfl | rfl <;> omega
theorem ones_at {k i : Nat} (h : i < k) : (List.replicate k (1 : Int))[i]? = some 1 := by rw [List.getElem?_replicate, if_pos h]
theorem ones_tv (k : Nat) : TV k (List.replicate k 1) := ⟨by simp, fun i x hx => by
  rw [List.getElem?_replicate] at hx
  split at hx
  · injection hx with hx; omega
  · cases hx⟩
/-- What is at rest makes all of a chain true. -/
theorem ch_all {k : Nat} {u : List Int} (h : 1 ≤ k) (hu : TV k u) (hr : Rest (ch k) u) : ∀ i, i < k → u[i]? = some 1 := by
  have at1 : ∀ i : Nat, i < k → wo u ((i : Int) + 1) = 1 → u[i]? = some 1 := fun i hi e => by
    obtain ⟨x, hx⟩ : ∃ x, u[i]? = some x := ⟨_, List.getElem?_eq_getElem (by rw [hu.1]; exact hi)⟩
    rw [wo_pos, hx] at e
    simp at e; rw [hx, e]
  intro i
  induction i with
  | zero =>
    intro hi
    refine at1 0 hi ?_
    rcases hr [1] ((ch_mem _).2 (.inl rfl)) with ⟨x, hx, e⟩ | ⟨x, hx, y, hy, hne, _⟩
    · simp at hx; subst hx; exact e
    · simp at hx hy; exact absurd (hx.trans hy.symm) hne
  | succ i ih =>
    intro hi
    have h1 := ih (by omega)
    have w1 : wo u (-((i : Int) + 1)) = -1 := by rw [wo_neg, h1]; rfl
    refine at1 (i + 1) hi ?_
    have hm : lnk (i + 1) ∈ ch k := (ch_mem _).2 (.inr ⟨i, by omega, rfl⟩)
    have hcases : ∀ x ∈ lnk (i + 1), x = -((i : Int) + 1) ∨ x = ((i + 1 : Nat) : Int) + 1 := fun x hx => by
      simp [lnk] at hx; push_cast; exact hx
    rcases hr _ hm with ⟨x, hx, e⟩ | ⟨x, hx, y, hy, hne, ex, ey⟩
    · rcases hcases x hx with rfl | rfl
      · rw [w1] at e; cases e
      · exact e
    · exfalso
      rcases hcases x hx with rfl | rfl
      · rw [w1] at ex; cases ex
      · rcases hcases y hy with rfl | rfl
        · rw [w1] at ey; cases ey
        · exact hne rfl
theorem zeros_up0 (n : Nat) (u : List Int) : Up (List.replicate n 0) u := fun i x hx h0 => by
  rw [List.getElem?_replicate] at hx
  split at hx
  · injection hx with hx; exact absurd hx.symm h0
  · cases hx
theorem ch_ans {k : Nat} {f : List (List Int)} (h : 1 ≤ k) (hf : ∀ c, c ∈ f ↔ c ∈ ch k) : Ans k f (List.replicate k 0) (some (List.replicate k 1)) := by
  have w1 : ∀ i : Nat, i < k → wo (List.replicate k 1) ((i : Int) + 1) = 1 := fun i hi => by rw [wo_pos, ones_at hi]; rfl
  refine ⟨ones_tv k, zeros_up0 k _, fun c hc => ?_, fun u hu _ hr => fun i x hx h0 => ?_⟩
  · rcases (ch_mem c).1 ((hf c).1 hc) with rfl | ⟨i, hi, rfl⟩
    · exact .inl ⟨1, by simp, by have := w1 0 (by omega); simpa using this⟩
    · refine .inl ⟨((i + 1 : Nat) : Int) + 1, by simp [lnk], w1 (i + 1) (by omega)⟩
  · have hr' : Rest (ch k) u := fun c hc => hr c ((hf c).2 hc)
    have hi : i < k := by have := (List.getElem?_eq_some_iff.1 hx).1; simpa using this
    rw [ones_at hi] at hx
    injection hx with hx; subst hx
    exact ch_all h hu hr' i hi
theorem ch_none {k : Nat} {f : List (List Int)} (h : 1 ≤ k) (hf : ∀ c, c ∈ f ↔ c ∈ ch k) : Ans k (f ++ [[-(k : Int)]]) (List.replicate k 0) none := by
  intro u hu _ hr
  have hr' : Rest (ch k) u := fun c hc => hr c (List.mem_append_left _ ((hf c).2 hc))
  have h1 := ch_all h hu hr' (k - 1) (by omega)
  have w1 : wo u (-(k : Int)) = -1 := by
    have := wo_neg u (k - 1)
    rw [h1, show ((k - 1 : Nat) : Int) + 1 = (k : Int) by omega] at this
    rw [this]; rfl
  rcases hr [-(k : Int)] (by simp) with ⟨x, hx, e⟩ | ⟨x, hx, y, hy, hne, _⟩
  · simp at hx; subst hx; rw [w1] at e; cases e
  · simp at hx hy; exact hne (hx.trans hy.symm)
/-! ### Rows of a call's own, each in a block of numbers -/
def RowsI (w : World) (vs : List Value) (gl : List (List Int)) : Prop := vs.length = gl.length ∧ ∀ (i : Nat) (c : List Int), gl[i]? = some c → ∃ g, vs[i]? = some (.slice (some ⟨g, 0, none⟩) c.length c.length) ∧ w.heap[g]? = some (.cells (ints c).toArray 3 (0, 0))
theorem RowsI.ok {w : World} {vs : List Value} {gl : List (List Int)} (h : RowsI w vs gl) (hl : ∀ c ∈ gl, c.length ≤ 100000) : RowsOK w vs gl := by
  refine ⟨h.1, fun i c hc => ?_⟩
  obtain ⟨g, h1, h2⟩ := h.2 i c hc
  refine ⟨_, _, h1, ⟨fun j z hz => ⟨_, rfl, ?_⟩⟩, by have := hl c (List.mem_of_getElem? hc); omega⟩
  rw [add_at]
  unfold World.cell?
  rw [h2]
  show (ints c).toArray[j]? = _
  simp [hz]
theorem RowsI.keep {w w' : World} {vs : List Value} {gl : List (List Int)} (h : RowsI w vs gl) (k : ∀ (g : Nat) (cs : Array Value), w.heap[g]? = some (.cells cs 3 (0, 0)) → w'.heap[g]? = w.heap[g]?) : RowsI w' vs gl :=
  ⟨h.1, fun i c hc => by obtain ⟨g, h1, h2⟩ := h.2 i c hc; exact ⟨g, h1, (k g _ h2).trans h2⟩⟩
theorem own_apart {w w' : World} {b n : Nat} {v : Value} {xs : List Value} (h : w.ownsRow b 23 1 v n xs) (hg : w.grownBy w' v.ownBlock) : ∀ (g : Nat) (cs : Array Value), w.heap[g]? = some (.cells cs 3 (0, 0)) → w'.heap[g]? = w.heap[g]? := fun g cs hc => by
  refine hg.block g (lt_of_heap hc) fun e => ?_
  rcases h.2 with ⟨h0, _⟩ | ⟨g', c, cur, h0, _, hh, _⟩
  · rw [h0] at e; cases e
  · rw [h0] at e; injection e with e
    have e' : g = g' := e
    subst e'
    rw [hc] at hh; injection hh with hh; injection hh with _ hh _
    exact absurd hh (by decide)
theorem RowsI.snoc {w : World} {vs : List Value} {gl : List (List Int)} {g : Nat} {c : List Int} (h : RowsI w vs gl) (hg : w.heap[g]? = some (.cells (ints c).toArray 3 (0, 0))) : RowsI w (vs ++ [.slice (some ⟨g, 0, none⟩) c.length c.length]) (gl ++ [c]) := by
  refine ⟨by rw [List.length_append, List.length_append, h.1]; rfl, fun i d hd => ?_⟩
  by_cases hi : i < gl.length
  · rw [List.getElem?_append_left hi] at hd
    rw [List.getElem?_append_left (by rw [h.1]; exact hi)]; exact h.2 i d hd
  · have hi2 := (List.getElem?_eq_some_iff.1 hd).1
    simp at hi2
    obtain rfl : i = gl.length := by omega
    simp at hd; subst hd
    exact ⟨g, by rw [← h.1]; simp, hg⟩
theorem RowsI.swap {w : World} {vs : List Value} {f : List (List Int)} {i j : Nat} {u v : Value} {c d : List Int} (h : RowsI w vs f) (hc : f[i]? = some c) (hd : f[j]? = some d) (hu : vs[i]? = some u) (hv : vs[j]? = some v) : RowsI w ((vs.set i v).set j u) ((f.set i d).set j c) := by
  refine ⟨by simp [h.1], fun q e he => ?_⟩
  have hi := (List.getElem?_eq_some_iff.1 hc).1
  have hj := (List.getElem?_eq_some_iff.1 hd).1
  by_cases e1 : q = j
  · subst e1
    rw [List.getElem?_set_self (by simp; exact hj)] at he
    rw [List.getElem?_set_self (by simp; rw [h.1]; exact hj)]
    injection he with he; subst he
    obtain ⟨g, h1, h2⟩ := h.2 i _ hc
    rw [hu] at h1; injection h1 with h1
    exact ⟨g, by rw [h1], h2⟩
  · rw [List.getElem?_set_ne (fun k => e1 k.symm)] at he ⊢
    by_cases e2 : q = i
    · subst e2
      rw [List.getElem?_set_self hi] at he
      rw [List.getElem?_set_self (by rw [h.1]; exact hi)]
      injection he with he; subst he
      obtain ⟨g, h1, h2⟩ := h.2 j _ hd
      rw [hv] at h1; injection h1 with h1
      exact ⟨g, by rw [h1], h2⟩
    · rw [List.getElem?_set_ne (fun k => e2 k.symm)] at he ⊢
      exact h.2 q e he
end Go.Proofs.Ytigomnbcalpohaa
