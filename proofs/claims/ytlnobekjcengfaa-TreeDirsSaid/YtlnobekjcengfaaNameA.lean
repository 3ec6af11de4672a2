/-
  Names: plain data.
-/
import Derived.Test.YtlnobekjcengfaaGenW
namespace Go.Proofs.Ytlnobekjcengfaa
set_option linter.unusedVariables false

def chOk (c : UInt8) : Bool := (decide (97 ≤ c.toNat) && decide (c.toNat ≤ 122)) || (decide (48 ≤ c.toNat) && decide (c.toNat ≤ 57)) || decide (c.toNat = 46) || decide (c.toNat = 95)
def addC (ps : List (List UInt8)) (c : UInt8) : List (List UInt8) := if c.toNat = 47 then ps ++ [[]] else ps.dropLast ++ [ps.getLastD [] ++ [c]]
/-- A text's parts, between its strokes. -/
def parts (l : List UInt8) : List (List UInt8) := l.foldl addC [[]]
theorem parts_snoc (l : List UInt8) (c : UInt8) : parts (l ++ [c]) = addC (parts l) c := by unfold parts; rw [List.foldl_append]; rfl
theorem addC_pos (ps : List (List UInt8)) (c : UInt8) : 0 < (addC ps c).length := by unfold addC; split <;> simp
theorem parts_pos (l : List UInt8) : 0 < (parts l).length := by
  unfold parts
  have : ∀ (l : List UInt8) (ps : List (List UInt8)), 0 < ps.length → 0 < (l.foldl addC ps).length := by
    intro l
    induction l with
    | nil => intro ps h; exact h
    | cons c l ih => intro ps _; exact ih _ (addC_pos ps c)
  exact this l _ (by simp)
def partOk (p : List UInt8) : Bool := p != [] && p != [46] && p != [46, 46]
/-- May a text be a name? -/
def nameB (l : List UInt8) : Bool := decide (1 ≤ l.length) && decide (l.length ≤ 8) && l.all (fun c => decide (c.toNat = 47) || chOk c) && (parts l).all partOk && decide ((parts l).length ≤ 2)
theorem addC_len (ps : List (List UInt8)) (c : UInt8) (hc : ¬ c.toNat = 47) (h0 : 0 < ps.length) : (addC ps c).length = ps.length := by
  unfold addC
  rw [if_neg hc, List.length_append, List.length_dropLast]
  simp
  omega
/-- May all of a name, or what stands beside its stroke, be so? -/
def partB (l : List UInt8) : Bool := l.all chOk && partOk l
theorem fold_flat (ps : List (List UInt8)) (q : List UInt8) : ∀ (l : List UInt8), (∀ c ∈ l, c.toNat ≠ 47) → l.foldl addC (ps ++ [q]) = ps ++ [q ++ l]
  | [], _ => by simp
  | c :: l, h => by
    have h1 : addC (ps ++ [q]) c = ps ++ [q ++ [c]] := by
      unfold addC
      rw [if_neg (h c List.mem_cons_self)]
      simp
    rw [List.foldl_cons, h1, fold_flat ps (q ++ [c]) l (fun d hd => h d (List.mem_cons_of_mem _ hd))]
    simp
theorem fold_len : ∀ (l : List UInt8) (ps : List (List UInt8)), 0 < ps.length → ps.length ≤ (l.foldl addC ps).length
  | [], ps, _ => Nat.le_refl _
  | c :: l, ps, h => by
    rw [List.foldl_cons]
    refine Nat.le_trans ?_ (fold_len l _ (addC_pos ps c))
    by_cases hc : c.toNat = 47
    · unfold addC; rw [if_pos hc]; simp
    · rw [addC_len ps c hc h]; exact Nat.le_refl _
theorem fold_more : ∀ (l : List UInt8) (ps : List (List UInt8)), 0 < ps.length → (∃ c ∈ l, c.toNat = 47) → ps.length + 1 ≤ (l.foldl addC ps).length
  | [], ps, _, ⟨c, hc, _⟩ => by cases hc
  | c :: l, ps, h, ⟨d, hd, e⟩ => by
    rw [List.foldl_cons]
    by_cases hc : c.toNat = 47
    · have := fold_len l _ (addC_pos ps c)
      have e2 : (addC ps c).length = ps.length + 1 := by unfold addC; rw [if_pos hc]; simp
      omega
    · rcases List.mem_cons.1 hd with rfl | hd
      · exact absurd e hc
      · have := fold_more l _ (addC_pos ps c) ⟨d, hd, e⟩
        rw [addC_len ps c hc h] at this
        exact this
theorem chOk_47 {c : UInt8} (h : c.toNat = 47) : chOk c = false := by unfold chOk; rw [h]; rfl
theorem all_ch {l : List UInt8} (h : ∀ c ∈ l, c.toNat ≠ 47) : (l.all fun c => decide (c.toNat = 47) || chOk c) = l.all chOk := by
  induction l with
  | nil => rfl
  | cons c l ih =>
    rw [List.all_cons, List.all_cons, ih (fun d hd => h d (List.mem_cons_of_mem _ hd)), decide_eq_false (h c List.mem_cons_self), Bool.false_or]
theorem partB_stroke {l : List UInt8} (h : ∃ c ∈ l, c.toNat = 47) : partB l = false := by
  obtain ⟨c, hc, e⟩ := h
  have : l.all chOk = false := List.all_eq_false.2 ⟨c, hc, by rw [chOk_47 e]; decide⟩
  unfold partB
  rw [this]
  rfl
theorem partB_nil : partB [] = false := rfl
/-- No stroke: one part. -/
theorem name_one {l : List UInt8} (h : ∀ c ∈ l, c.toNat ≠ 47) : nameB l = (decide (l.length ≤ 8) && partB l) := by
  have hp : parts l = [l] := by
    have := fold_flat [] [] l h
    simpa [parts] using this
  unfold nameB partB
  rw [all_ch h, hp]
  cases l with
  | nil => rfl
  | cons c l => simp [Bool.and_assoc]
/-- A first stroke: what stands ahead of it and behind it. -/
theorem name_two {a b : List UInt8} {c : UInt8} (h : ∀ c ∈ a, c.toNat ≠ 47) (hc : c.toNat = 47) : nameB (a ++ c :: b) = (decide ((a ++ c :: b).length ≤ 8) && (partB a && partB b)) := by
  have e0 : parts (a ++ c :: b) = b.foldl addC ([a] ++ [[]]) := by
    have h1 := fold_flat [] [] a h
    simp only [List.nil_append] at h1
    unfold parts
    rw [List.foldl_append, h1, List.foldl_cons]
    congr 1
    unfold addC
    rw [if_pos hc]
  by_cases hb : ∃ d ∈ b, d.toNat = 47
  · have h2 := fold_more b ([a] ++ [[]]) (by simp) hb
    rw [partB_stroke hb, Bool.and_false, Bool.and_false]
    have h3 : decide ((parts (a ++ c :: b)).length ≤ 2) = false := decide_eq_false (by rw [e0]; have e2 : ([a] ++ [[]] : List (List UInt8)).length = 2 := rfl; rw [e2] at h2; omega)
    unfold nameB
    rw [h3, Bool.and_false]
  · have hb' : ∀ d ∈ b, d.toNat ≠ 47 := fun d hd e => hb ⟨d, hd, e⟩
    have h2 := fold_flat [a] [] b hb'
    rw [List.nil_append] at h2
    rw [h2] at e0
    have e1 : ((a ++ c :: b).all fun c => decide (c.toNat = 47) || chOk c) = (a.all chOk && b.all chOk) := by
      rw [List.all_append, List.all_cons, all_ch h, all_ch hb', decide_eq_true hc]
      simp
    unfold nameB
    rw [e0, e1, decide_eq_true (show 1 ≤ (a ++ c :: b).length by simp; omega)]
    unfold partB
    simp only [List.singleton_append, List.all_cons, List.all_nil, List.length_cons, List.length_nil, Bool.true_and, Bool.and_true]
    cases decide ((a ++ c :: b).length ≤ 8) <;> cases a.all chOk <;> cases b.all chOk <;> cases partOk a <;> cases partOk b <;> rfl
end Go.Proofs.Ytlnobekjcengfaa
