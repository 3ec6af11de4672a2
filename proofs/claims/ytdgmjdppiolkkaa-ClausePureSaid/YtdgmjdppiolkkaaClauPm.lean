/-
  Part of the law ClausePure, of no program: what stands one way alone spoils no clause.
-/
import Derived.Test.YtdgmjdppiolkkaaClauM
import Derived.ProofKit
namespace Go.Proofs.Ytdgmjdppiolkkaa.clausePure
open Go.ChangeShapes Go.WideShapes Go.ChangeAt Go.RowKit
set_option linter.unusedVariables false

/-- Truth values with what stands one way alone made to hold. -/
def fixB (m : List Bool) (p : List Int) : List Bool := p.foldl (fun x l => x.set ((numb l).toNat - 1) (decide (0 < l))) m
theorem fixB_snoc (m : List Bool) (p : List Int) (l : Int) : fixB m (p ++ [l]) = (fixB m p).set ((numb l).toNat - 1) (decide (0 < l)) := by simp [fixB]
theorem fixB_len (m : List Bool) (p : List Int) : (fixB m p).length = m.length := by
  refine snoc_ind (p := fun p => (fixB m p).length = m.length) rfl (fun p l ih => ?_) p
  show _ = _
  rw [fixB_snoc, List.length_set, ih]
/-- One step keeps what held: no clause has what is spoiled. -/
theorem keep_one {m : List Bool} {c : List Int} {l : Int} (hl : lit l = true) (hwl : Wf l) (hlen : (numb l).toNat ≤ m.length) (hw : ∀ x ∈ c, Wf x) (hno : -l ∉ c) (h : evalC m c = true) : evalC (m.set ((numb l).toNat - 1) (decide (0 < l))) c = true := by
  have h1 : 1 ≤ numb l := by unfold lit at hl; exact of_decide_eq_true hl
  unfold evalC at *
  obtain ⟨x, hx, hh⟩ := List.any_eq_true.1 h
  by_cases e : numb x = numb l
  · have hxl : x = l := by
      have a := numb_cases (hw x hx)
      have b := numb_cases hwl
      have hxn : x ≠ -l := fun e => hno (e ▸ hx)
      omega
    refine List.any_eq_true.2 ⟨l, hxl ▸ hx, ?_⟩
    unfold holdsM
    rw [if_neg (by omega), show (numb l - 1).toNat = (numb l).toNat - 1 by omega, List.getElem?_set_self (by omega)]
    simp
  · refine List.any_eq_true.2 ⟨x, hx, ?_⟩
    unfold holdsM at hh ⊢
    by_cases hx1 : numb x < 1
    · rw [if_pos hx1] at hh; cases hh
    · rw [if_neg hx1] at hh ⊢
      rw [List.getElem?_set_ne (by omega)]; exact hh
theorem pure_mem {f : List (List Int)} {k : Nat} {l : Int} (h : l ∈ pureTo f k) : ∃ v : Nat, 1 ≤ v ∧ v ≤ k ∧ (l = v ∨ l = -(v : Int)) ∧ inF f (-l) = false := by
  unfold pureTo at h
  obtain ⟨i, hi, h⟩ := List.mem_flatMap.1 h
  have hi := List.mem_range.1 hi
  refine ⟨i + 1, by omega, by omega, ?_⟩
  unfold pure1 at h
  split at h
  · rename_i hc
    simp at h; subst h
    rw [Bool.and_eq_true] at hc
    exact ⟨.inl rfl, by simpa using hc.2⟩
  · split at h
    · rename_i hc
      simp only [List.mem_cons, List.not_mem_nil, or_false] at h; subst h
      rw [Bool.and_eq_true] at hc
      exact ⟨.inr rfl, by rw [Int.neg_neg]; simpa using hc.2⟩
    · cases h
theorem keep_all {m : List Bool} {f : List (List Int)} {k : Nat} {c : List Int} (hlen : k ≤ m.length) (hk : k ≤ 65536) (hc : c ∈ f) (hw : ∀ x ∈ c, Wf x) (h : evalC m c = true) : ∀ (p : List Int), (∀ l ∈ p, l ∈ pureTo f k) → evalC (fixB m p) c = true := fun p => by
  refine snoc_ind (p := fun p => (∀ l ∈ p, l ∈ pureTo f k) → evalC (fixB m p) c = true) (fun _ => h) (fun p l ih => ?_) p
  show (∀ l_1 ∈ p ++ [l], _) → _ = _
  intro hp
  obtain ⟨v, v1, v2, v3, v4⟩ := pure_mem (hp l (by simp))
  have hwl : Wf l := by unfold Wf; omega
  have hn : numb l = v := by have := numb_cases hwl; omega
  rw [fixB_snoc]
  refine keep_one (by unfold lit; rw [decide_eq_true_iff]; omega) hwl (by rw [fixB_len]; omega) hw (fun hm => ?_) (ih fun x hx => hp x (by simp [hx]))
  rw [Bool.eq_false_iff] at v4
  exact v4 (inF_iff.2 ⟨c, hc, hm⟩)
end Go.Proofs.Ytdgmjdppiolkkaa.clausePure
