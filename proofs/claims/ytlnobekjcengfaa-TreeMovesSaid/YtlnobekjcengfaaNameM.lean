/-
  Names of files and directories: their parts, how deep, which is less: plain data.
-/
import Derived.Test.YtlnobekjcengfaaNameA
import Derived.Sort.Walk0
namespace Go.Proofs.Ytlnobekjcengfaa
open Go.ChangeShapes Go.WideShapes Go.ChangeAt Go.RowKit Go.Joins
set_option linter.unusedVariables false

/-- Is it a stroke? -/
def strk (c : UInt8) : Bool := decide (c.toNat = 47)
/-- What stands ahead of the stroke (empty: there is none), and the last part; of what is no name both are empty. -/
def spl (l : List UInt8) : List UInt8 × List UInt8 := if nameB l = true then (if l.any strk = true then (l.takeWhile (fun c => !strk c), (l.dropWhile (fun c => !strk c)).tail) else ([], l)) else ([], [])
def deepB (l : List UInt8) : Int := if nameB l = true then (if l.any strk = true then 2 else 1) else 0
def lessN (a b : List UInt8) : Bool := decide ((spl a).1 < (spl b).1) || ((spl a).1 == (spl b).1 && decide ((spl a).2 < (spl b).2))
/-- A text is parted at its first stroke. -/
inductive Strk (l : List UInt8) : Prop where
  | no : (∀ c ∈ l, c.toNat ≠ 47) → Strk l
  | yes {a b : List UInt8} {c : UInt8} : l = a ++ c :: b → (∀ d ∈ a, d.toNat ≠ 47) → c.toNat = 47 → Strk l
theorem strk_of : ∀ l : List UInt8, Strk l
  | [] => .no fun c hc => by cases hc
  | c :: l => by
    by_cases h : c.toNat = 47
    · exact .yes (a := []) (b := l) (c := c) rfl (fun d hd => by cases hd) h
    · cases strk_of l with
      | no h1 =>
        refine .no fun d hd => ?_
        rcases List.mem_cons.1 hd with rfl | hd
        · exact h
        · exact h1 d hd
      | @yes a b d h1 h2 h3 =>
        refine .yes (a := c :: a) (b := b) (c := d) (by rw [h1]; rfl) (fun e he => ?_) h3
        rcases List.mem_cons.1 he with rfl | he
        · exact h
        · exact h2 e he
theorem any_no {l : List UInt8} (h : ∀ c ∈ l, c.toNat ≠ 47) : l.any strk = false := List.any_eq_false.2 fun c hc => by unfold strk; simp [h c hc]
theorem take_no {a : List UInt8} {c : UInt8} {b : List UInt8} (h : ∀ d ∈ a, d.toNat ≠ 47) (hc : c.toNat = 47) : (a ++ c :: b).takeWhile (fun c => !strk c) = a ∧ (a ++ c :: b).dropWhile (fun c => !strk c) = c :: b := by
  induction a with
  | nil => simp [strk, hc]
  | cons d a ih =>
    have hd : strk d = false := decide_eq_false (h d List.mem_cons_self)
    obtain ⟨h1, h2⟩ := ih fun e he => h e (List.mem_cons_of_mem _ he)
    simp [hd, h1, h2]
theorem spl_no {l : List UInt8} (h : nameB l = false) : spl l = ([], []) := by unfold spl; rw [if_neg (by rw [h]; decide)]
theorem spl_one {l : List UInt8} (h : nameB l = true) (h1 : ∀ c ∈ l, c.toNat ≠ 47) : spl l = ([], l) := by unfold spl; rw [if_pos h, if_neg (by rw [any_no h1]; decide)]
theorem spl_two {a b : List UInt8} {c : UInt8} (h : nameB (a ++ c :: b) = true) (h1 : ∀ d ∈ a, d.toNat ≠ 47) (hc : c.toNat = 47) : spl (a ++ c :: b) = (a, b) := by
  have ha : (a ++ c :: b).any strk = true := List.any_eq_true.2 ⟨c, by simp, decide_eq_true hc⟩
  obtain ⟨h2, h3⟩ := take_no (b := b) h1 hc
  unfold spl
  rw [if_pos h, if_pos ha, h2, h3]
  rfl
theorem part_ne {p : List UInt8} (h : partB p = true) : p ≠ [] := fun e => by rw [e] at h; cases h
theorem part_flat {p : List UInt8} (h : partB p = true) : ∀ c ∈ p, c.toNat ≠ 47 := fun c hc e => by rw [partB_stroke ⟨c, hc, e⟩] at h; cases h
/-- What a name is: one part, or two. -/
theorem name_cases {l : List UInt8} (h : nameB l = true) : (partB l = true ∧ l.length ≤ 8 ∧ spl l = ([], l) ∧ deepB l = 1) ∨ ∃ a b c, l = a ++ c :: b ∧ c.toNat = 47 ∧ partB a = true ∧ partB b = true ∧ l.length ≤ 8 ∧ spl l = (a, b) ∧ deepB l = 2 := by
  cases strk_of l with
  | no h1 =>
    have h2 := h
    rw [name_one h1, Bool.and_eq_true, decide_eq_true_eq] at h2
    exact .inl ⟨h2.2, h2.1, spl_one h h1, by unfold deepB; rw [if_pos h, if_neg (by rw [any_no h1]; decide)]⟩
  | @yes a b c h1 h2 h3 =>
    subst h1
    have h4 := h
    rw [name_two h2 h3, Bool.and_eq_true, Bool.and_eq_true, decide_eq_true_eq] at h4
    exact .inr ⟨a, b, c, rfl, h3, h4.2.1, h4.2.2, h4.1, spl_two h h2 h3, by unfold deepB; rw [if_pos h, if_pos (List.any_eq_true.2 ⟨c, by simp, decide_eq_true h3⟩)]⟩
/-- How deep, from the parts. -/
theorem deep_spl (l : List UInt8) : deepB l = if nameB l = true then (if (spl l).1 = [] then 1 else 2) else 0 := by
  by_cases h : nameB l = true
  · rw [if_pos h]
    rcases name_cases h with ⟨_, _, h2, h3⟩ | ⟨a, b, c, _, _, h2, _, _, h3, h4⟩
    · rw [h2, h3]; rfl
    · rw [h3, h4, if_neg (part_ne h2)]
  · rw [if_neg h]; unfold deepB; rw [if_neg h]
/-- Joined again the parts are the name. -/
theorem back_of {l : List UInt8} (h : nameB l = true) : (if (spl l).1 = [] then (spl l).2 else (spl l).1 ++ [47] ++ (spl l).2) = l := by
  rcases name_cases h with ⟨_, _, h2, _⟩ | ⟨a, b, c, h1, h2, h3, _, _, h4, _⟩
  · rw [h2]; rfl
  · have hc : c = 47 := UInt8.toNat_inj.1 (by rw [h2]; rfl)
    rw [h4, if_neg (part_ne h3), h1, hc]
    simp
theorem spl_inj {a b : List UInt8} (ha : nameB a = true) (hb : nameB b = true) (h : spl a = spl b) : a = b := by rw [← back_of ha, ← back_of hb, h]
/-! ### The order -/
theorem lt_irr (a : List UInt8) : ¬ a < a := List.lt_irrefl a
theorem lt_tr {a b c : List UInt8} (h : a < b) (k : b < c) : a < c := List.lt_trans h k
theorem lt_tri (a b : List UInt8) : a < b ∨ a = b ∨ b < a := by
  by_cases h : a < b
  · exact .inl h
  by_cases k : b < a
  · exact .inr (.inr k)
  · exact .inr (.inl (List.le_antisymm (List.not_lt.1 k) (List.not_lt.1 h)))
theorem less_iff {a b : List UInt8} : lessN a b = true ↔ (spl a).1 < (spl b).1 ∨ ((spl a).1 = (spl b).1 ∧ (spl a).2 < (spl b).2) := by
  unfold lessN
  rw [Bool.or_eq_true, Bool.and_eq_true, decide_eq_true_eq, decide_eq_true_eq, beq_iff_eq]
theorem less_one {a b : List UInt8} (ha : nameB a = true) (hb : nameB b = true) : a = b ↔ (lessN a b = false ∧ lessN b a = false) := by
  constructor
  · rintro rfl
    have : lessN a a = false := by
      rw [← Bool.not_eq_true, less_iff]
      rintro (h | ⟨_, h⟩) <;> exact lt_irr _ h
    exact ⟨this, this⟩
  · rintro ⟨h1, h2⟩
    rw [← Bool.not_eq_true, less_iff] at h1 h2
    have e1 : (spl a).1 = (spl b).1 := by
      rcases lt_tri (spl a).1 (spl b).1 with h | h | h
      · exact absurd (.inl h) h1
      · exact h
      · exact absurd (.inl h) h2
    have e2 : (spl a).2 = (spl b).2 := by
      rcases lt_tri (spl a).2 (spl b).2 with h | h | h
      · exact absurd (.inr ⟨e1, h⟩) h1
      · exact h
      · exact absurd (.inr ⟨e1.symm, h⟩) h2
    exact spl_inj ha hb (Prod.ext e1 e2)
theorem less_not {a b : List UInt8} : ¬ (lessN a b = true ∧ lessN b a = true) := by
  rintro ⟨h1, h2⟩
  rw [less_iff] at h1 h2
  rcases h1 with h1 | ⟨e1, h1⟩ <;> rcases h2 with h2 | ⟨e2, h2⟩
  · exact lt_irr _ (lt_tr h1 h2)
  · rw [e2] at h1; exact lt_irr _ h1
  · rw [e1] at h2; exact lt_irr _ h2
  · exact lt_irr _ (lt_tr h1 h2)
theorem less_trans {a b c : List UInt8} (h1 : lessN a b = true) (h2 : lessN b c = true) : lessN a c = true := by
  rw [less_iff] at h1 h2 ⊢
  rcases h1 with h1 | ⟨e1, h1⟩ <;> rcases h2 with h2 | ⟨e2, h2⟩
  · exact .inl (lt_tr h1 h2)
  · exact .inl (by rw [← e2]; exact h1)
  · exact .inl (by rw [e1]; exact h2)
  · exact .inr ⟨e1.trans e2, lt_tr h1 h2⟩
/-! ### Joins -/
theorem deep_one {l : List UInt8} (h : deepB l = 1) : partB l = true := by
  unfold deepB at h
  split at h
  · rename_i h1
    split at h
    · cases h
    · rename_i h2
      rcases name_cases h1 with ⟨h3, _⟩ | ⟨a, b, c, h3, h4, _⟩
      · exact h3
      · exact absurd (List.any_eq_true.2 ⟨c, by rw [h3]; simp, decide_eq_true h4⟩) h2
  · cases h
theorem join_may {a b : List UInt8} (ha : partB a = true) (hb : partB b = true) : nameB (a ++ [47] ++ b) = decide ((a ++ [47] ++ b).length ≤ 8) := by
  have e : a ++ [47] ++ b = a ++ (47 : UInt8) :: b := by simp
  rw [e, name_two (part_flat ha) rfl, ha, hb]
  simp
theorem join_spl {a b : List UInt8} (ha : partB a = true) (hb : partB b = true) (h : (a ++ [47] ++ b).length ≤ 8) : spl (a ++ [47] ++ b) = (a, b) ∧ deepB (a ++ [47] ++ b) = 2 := by
  have hn : nameB (a ++ [47] ++ b) = true := by rw [join_may ha hb]; exact decide_eq_true h
  have e : a ++ [47] ++ b = a ++ (47 : UInt8) :: b := by simp
  rw [e] at hn ⊢
  have hs := spl_two hn (part_flat ha) rfl
  refine ⟨hs, ?_⟩
  rw [deep_spl, if_pos hn, hs, if_neg (part_ne ha)]
theorem two_strokes {a b : List UInt8} {c : List UInt8} (ha : ∀ d ∈ a, d.toNat ≠ 47) : nameB (a ++ [47] ++ b ++ [47] ++ c) = false := by
  have e : a ++ [47] ++ b ++ [47] ++ c = a ++ (47 : UInt8) :: (b ++ [47] ++ c) := by simp
  rw [e, name_two ha rfl, partB_stroke (l := b ++ [47] ++ c) ⟨47, by simp, rfl⟩]
  simp
theorem end_stroke {l : List UInt8} : nameB (l ++ [47]) = false := by
  cases strk_of l with
  | no h => rw [name_two (b := []) h rfl]; simp [partB_nil]
  | @yes a b c h1 h2 h3 =>
    have e : l ++ [47] = a ++ c :: (b ++ [47]) := by rw [h1]; simp
    rw [e, name_two h2 h3, partB_stroke (l := b ++ [47]) ⟨47, by simp, rfl⟩]
    simp
theorem head_stroke {l : List UInt8} : nameB ([47] ++ l) = false := by
  have := name_two (a := []) (b := l) (c := 47) (fun d hd => by cases hd) rfl
  rw [show ([47] : List UInt8) ++ l = [] ++ (47 : UInt8) :: l from rfl, this]
  simp [partB_nil]
end Go.Proofs.Ytlnobekjcengfaa
