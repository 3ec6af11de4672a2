/-
  Literals, clauses and formulas as plain data: numbers of literals, their order, clauses that are normal, what holds. No program.
-/
import Derived.Test.YtigomnbcalpohaaRows
import Derived.Below
import Derived.Lib.SlicesCompact
import Derived.Lib.Hide
import Derived.Sort.Statements
namespace Go.Proofs.Ytigomnbcalpohaa
open Go.RowKit Go.Sort

theorem snoc_ind {α : Type} {p : List α → Prop} (nil : p []) (snoc : ∀ c l, p c → p (c ++ [l])) : ∀ c, p c := fun c => by
  have h : ∀ r : List α, p r.reverse := fun r => by
    induction r with
    | nil => exact nil
    | cons a ts ih => rw [List.reverse_cons]; exact snoc _ _ ih
  have := h c.reverse
  rwa [List.reverse_reverse] at this
/-! ### Literals -/
def Wf (l : Int) : Prop := -9223372036854775808 ≤ l ∧ l ≤ 9223372036854775807
def numb (l : Int) : Int := if l < 0 then IntKind.i64.wrap (-l) else l
theorem wrap_in {a : Int} (h0 : -9223372036854775808 ≤ a) (h1 : a ≤ 9223372036854775807) : IntKind.i64.wrap a = a := by
  simp [IntKind.wrap, IntKind.bits, IntKind.signed]; omega
theorem wrap_least : IntKind.i64.wrap 9223372036854775808 = -9223372036854775808 := by decide
theorem numb_pos {l : Int} (h : 0 ≤ l) : numb l = l := by unfold numb; rw [if_neg (by omega)]
theorem numb_neg {l : Int} (h : l < 0) (h1 : -9223372036854775807 ≤ l) : numb l = -l := by unfold numb; rw [if_pos h, wrap_in (by omega) (by omega)]
theorem numb_least : numb (-9223372036854775808) = -9223372036854775808 := by decide
theorem numb_cases {l : Int} (h : Wf l) : (l = -9223372036854775808 ∧ numb l = -9223372036854775808) ∨ (-9223372036854775807 ≤ l ∧ ((0 ≤ l ∧ numb l = l) ∨ (l < 0 ∧ numb l = -l))) := by
  unfold Wf at h
  by_cases e : l = -9223372036854775808
  · subst e; exact .inl ⟨rfl, numb_least⟩
  · right
    refine ⟨by omega, ?_⟩
    by_cases h0 : 0 ≤ l
    · exact .inl ⟨h0, numb_pos h0⟩
    · exact .inr ⟨by omega, numb_neg (by omega) (by omega)⟩
theorem numb_bd {l : Int} (h : Wf l) : Wf (numb l) := by
  have := numb_cases h
  unfold Wf at *; omega
/-- Is it a literal: neither 0 nor the least number? -/
def lit (l : Int) : Bool := decide (1 ≤ numb l)
theorem lit_iff {l : Int} (h : Wf l) : lit l = true ↔ l ≠ 0 ∧ l ≠ -9223372036854775808 := by
  unfold lit; rw [decide_eq_true_iff]
  have := numb_cases h
  omega
theorem lit_no {l : Int} (h : Wf l) : lit l = false ↔ l = 0 ∨ l = -9223372036854775808 := by
  have := lit_iff h
  cases hl : lit l <;> simp [hl] at this ⊢ <;> omega
/-- By number, v ahead of -v. -/
def ltL (x y : Int) : Bool := decide (numb x < numb y ∨ (numb x = numb y ∧ y < x))
def cmpI (x y : Int) : Int := if x < y then -1 else if y < x then 1 else 0
def cfM (x y : Int) : Int := if cmpI (numb x) (numb y) = 0 then cmpI y x else cmpI (numb x) (numb y)
theorem ltL_iff {x y : Int} : ltL x y = true ↔ numb x < numb y ∨ (numb x = numb y ∧ y < x) := by unfold ltL; rw [decide_eq_true_iff]
theorem ltL_irr (x : Int) : ltL x x = false := by unfold ltL; rw [decide_eq_false_iff_not]; omega
theorem ltL_trans {x y z : Int} (h : ltL x y = true) (k : ltL y z = true) : ltL x z = true := by rw [ltL_iff] at *; omega
theorem ltL_asymm {x y : Int} (h : ltL x y = true) : ltL y x = false := by
  cases k : ltL y x
  · rfl
  · rw [ltL_iff] at h k; omega
theorem ltL_tot {x y : Int} (h : ltL x y = false) (k : ltL y x = false) : x = y := by
  unfold ltL at h k; rw [decide_eq_false_iff_not] at h k; omega
/-! ### Rows that rise -/
def Rise (l : List Int) : Prop := l.Pairwise fun x y => ltL x y = true
theorem Rise.ext : ∀ {a b : List Int}, Rise a → Rise b → (∀ x, x ∈ a ↔ x ∈ b) → a = b
  | [], [], _, _, _ => rfl
  | [], y :: b, _, _, h => by have := (h y).2 (by simp); cases this
  | x :: a, [], _, _, h => by have := (h x).1 (by simp); cases this
  | x :: a, y :: b, ha, hb, h => by
    have ha' := List.pairwise_cons.1 ha
    have hb' := List.pairwise_cons.1 hb
    have e : x = y := by
      rcases List.mem_cons.1 ((h x).1 (by simp)) with e | hx
      · exact e
      · rcases List.mem_cons.1 ((h y).2 (by simp)) with e | hy
        · exact e.symm
        · have := ltL_asymm (ha'.1 y hy); rw [hb'.1 x hx] at this; cases this
    subst e
    congr 1
    refine Rise.ext ha'.2 hb'.2 fun z => ⟨fun hz => ?_, fun hz => ?_⟩
    · rcases List.mem_cons.1 ((h z).1 (by simp [hz])) with e | hz'
      · subst e; have := ha'.1 z hz; rw [ltL_irr] at this; cases this
      · exact hz'
    · rcases List.mem_cons.1 ((h z).2 (by simp [hz])) with e | hz'
      · subst e; have := hb'.1 z hz; rw [ltL_irr] at this; cases this
      · exact hz'
/-- One more, in its place. -/
def ins (l : Int) : List Int → List Int
  | [] => [l]
  | a :: ts => if ltL a l = true then a :: ins l ts else if a = l then a :: ts else l :: a :: ts
theorem mem_ins {l x : Int} : ∀ {o : List Int}, x ∈ ins l o ↔ x = l ∨ x ∈ o
  | [] => by simp [ins]
  | a :: ts => by
    unfold ins
    split
    · simp [mem_ins (o := ts)]; constructor <;> (intro h; rcases h with h | h | h <;> simp [h])
    · split
      · rename_i e; subst e; simp
      · simp
theorem Rise.ins {l : Int} : ∀ {o : List Int}, Rise o → Rise (ins l o)
  | [], _ => by simp [Rise, Go.Proofs.Ytigomnbcalpohaa.ins]
  | a :: ts, h => by
    have h' := List.pairwise_cons.1 h
    unfold Go.Proofs.Ytigomnbcalpohaa.ins
    split
    · rename_i hl
      refine List.pairwise_cons.2 ⟨fun x hx => ?_, Rise.ins h'.2⟩
      rcases mem_ins.1 hx with rfl | hx
      · exact hl
      · exact h'.1 x hx
    · split
      · exact h
      · rename_i hl hne
        have hla : ltL l a = true := by
          cases k : ltL l a
          · exact absurd (ltL_tot (by simpa using hl) k) hne
          · rfl
        refine List.pairwise_cons.2 ⟨fun x hx => ?_, h⟩
        rcases List.mem_cons.1 hx with rfl | hx
        · exact hla
        · exact ltL_trans hla (h'.1 x hx)
/-- The literals of a clause, each of them once, in order. -/
def row (c : List Int) : List Int := c.foldl (fun o l => if lit l = true then ins l o else o) []
theorem row_snoc (c : List Int) (l : Int) : row (c ++ [l]) = if lit l = true then ins l (row c) else row c := by simp [row]
theorem row_spec (c : List Int) : Rise (row c) ∧ ∀ x, x ∈ row c ↔ x ∈ c ∧ lit x = true := by
  refine snoc_ind (p := fun c => Rise (row c) ∧ ∀ x, x ∈ row c ↔ x ∈ c ∧ lit x = true) ⟨by simp [row, Rise], by simp [row]⟩ (fun c l ih => ?_) c
  · show Rise _ ∧ _
    rw [row_snoc]
    split
    · rename_i h
      refine ⟨ih.1.ins, fun x => ?_⟩
      rw [mem_ins, ih.2]; simp
      constructor
      · rintro (rfl | ⟨a, b⟩)
        · exact ⟨.inr rfl, h⟩
        · exact ⟨.inl a, b⟩
      · rintro ⟨a | rfl, b⟩
        · exact .inr ⟨a, b⟩
        · exact .inl rfl
    · rename_i h
      refine ⟨ih.1, fun x => ?_⟩
      rw [ih.2]; simp
      intro hx e
      subst e; exact absurd hx h
theorem row_eq {c d : List Int} (h : ∀ x, lit x = true → (x ∈ c ↔ x ∈ d)) : row c = row d :=
  (row_spec c).1.ext (row_spec d).1 fun x => by
    rw [(row_spec c).2, (row_spec d).2]
    constructor
    · rintro ⟨a, b⟩; exact ⟨(h x b).1 a, b⟩
    · rintro ⟨a, b⟩; exact ⟨(h x b).2 a, b⟩
theorem row_len (c : List Int) : (row c).length ≤ c.length := by
  have hi : ∀ (l : Int) (o : List Int), (ins l o).length ≤ o.length + 1 := fun l o => by
    induction o with
    | nil => simp [ins]
    | cons a ts ih =>
      unfold ins
      split
      · simp; omega
      · split <;> simp
  refine snoc_ind (p := fun c => (row c).length ≤ c.length) (by simp [row]) (fun c l ih => ?_) c
  · show _ ≤ _
    rw [row_snoc, List.length_append, List.length_singleton]
    split
    · have := hi l (row c); omega
    · omega
theorem row_row (c : List Int) : row (row c) = row c := by
  refine row_eq fun x hx => ?_
  rw [(row_spec c).2]; simp [hx]
theorem row_lit {c : List Int} {x : Int} (h : x ∈ row c) : lit x = true := (((row_spec c).2 x).1 h).2
theorem row_mem {c : List Int} {x : Int} (h : x ∈ row c) : x ∈ c := (((row_spec c).2 x).1 h).1

/-! ### What the library's sort and its compacting leave -/
theorem compact_mem {x : Int} (s : List Int) : x ∈ Lib.compact s ↔ x ∈ s := by
  unfold Lib.compact Lib.compactUpTo
  simp only [List.mem_map, List.mem_filter, List.mem_range]
  constructor
  · rintro ⟨i, ⟨hi, _⟩, rfl⟩
    have : i < s.toArray.size := by simpa using hi
    rw [getElem!_pos _ i this]
    simp
  · intro hx
    obtain ⟨i, hi, rfl⟩ := List.mem_iff_getElem.1 hx
    induction i using Nat.strongRecOn with
    | _ i ih =>
      by_cases hk : Lib.keeps s.toArray i = true
      · exact ⟨i, ⟨hi, hk⟩, by rw [getElem!_pos _ i (by simpa using hi)]; simp⟩
      · unfold Lib.keeps at hk
        simp only [decide_eq_true_eq, not_or, Decidable.not_not] at hk
        obtain ⟨h0, he⟩ := hk
        have hj : i - 1 < s.length := by omega
        rw [getElem!_pos _ i (by simpa using hi), getElem!_pos _ (i - 1) (by simpa using hj)] at he
        simp at he
        obtain ⟨k, hk1, hk2⟩ := ih (i - 1) (by omega) hj (List.getElem_mem _)
        exact ⟨k, hk1, by rw [hk2, he]⟩
theorem compact_rise {s : List Int} (h : s.Pairwise fun x y => ltL y x = false) : Rise (Lib.compact s) := by
  unfold Lib.compact Lib.compactUpTo Rise
  rw [List.pairwise_map]
  refine (List.Pairwise.filter _ (List.pairwise_lt_range (n := s.length))).imp_of_mem ?_
  intro i j hi hj hij
  have hk := (List.mem_filter.1 hj).2
  have hj' : j < s.length := by simpa using (List.mem_filter.1 hj).1
  unfold Lib.keeps at hk
  simp only [decide_eq_true_eq] at hk
  have hk := hk.resolve_left (by omega)
  rw [getElem!_pos _ j (by simpa using hj'), getElem!_pos _ (j - 1) (by simp; omega)] at hk
  rw [getElem!_pos _ j (by simpa using hj'), getElem!_pos _ i (by simp; omega)]
  simp at hk ⊢
  have g := List.pairwise_iff_getElem.1 h
  have h1 : ltL s[j] (s[j - 1]'(by omega)) = false := g (j - 1) j (by omega) hj' (by omega)
  have h2 : ltL (s[j - 1]'(by omega)) s[j] = true := by
    cases k : ltL (s[j - 1]'(by omega)) s[j]
    · exact absurd (ltL_tot h1 k) hk
    · rfl
  by_cases e : i = j - 1
  · subst e; exact h2
  · have h3 : ltL (s[j - 1]'(by omega)) (s[i]'(by omega)) = false := g i (j - 1) (by omega) (by omega) (by omega)
    cases k : ltL (s[i]'(by omega)) (s[j - 1]'(by omega))
    · have := ltL_tot k h3; rw [this]; exact h2
    · exact ltL_trans k h2
/-! ### Clauses that always hold -/
def taut : List Int → Bool
  | x :: y :: t => decide (y = -x) || taut (y :: t)
  | _ => false
theorem taut_iff : ∀ {s : List Int}, taut s = true ↔ ∃ (i : Nat) (x y : Int), s[i]? = some x ∧ s[i + 1]? = some y ∧ y = -x
  | [] => by simp [taut]
  | [a] => by simp [taut]
  | a :: b :: t => by
    unfold taut
    rw [Bool.or_eq_true, taut_iff (s := b :: t), decide_eq_true_iff]
    constructor
    · rintro (h | ⟨i, x, y, h1, h2, h3⟩)
      · exact ⟨0, a, b, rfl, rfl, h⟩
      · exact ⟨i + 1, x, y, by simpa using h1, by simpa using h2, h3⟩
    · rintro ⟨i, x, y, h1, h2, h3⟩
      cases i with
      | zero => simp at h1 h2; subst h1; subst h2; exact .inl h3
      | succ i => exact .inr ⟨i, x, y, by simpa using h1, by simpa using h2, h3⟩
/-- A clause as Normal answers it. -/
def nrm (c : List Int) : List Int × Bool := (if taut (row c) = true then [] else row c, taut (row c))
theorem nrm_eq {c d : List Int} (h : ∀ x, lit x = true → (x ∈ c ↔ x ∈ d)) : nrm c = nrm d := by unfold nrm; rw [row_eq h]

/-! ### What holds -/
def holdsM (m : List Bool) (l : Int) : Bool := if numb l < 1 then false else (m[(numb l - 1).toNat]?.getD false) == decide (0 < l)
def evalC (m : List Bool) (c : List Int) : Bool := c.any (holdsM m)
def evalM (m : List Bool) (f : List (List Int)) : Bool := f.all (evalC m)
theorem holds_lit {m : List Bool} {l : Int} (h : lit l = false) : holdsM m l = false := by
  unfold lit at h; rw [decide_eq_false_iff_not] at h
  unfold holdsM; rw [if_pos (by omega)]
theorem evalC_row (m : List Bool) (c : List Int) : evalC m (row c) = evalC m c := by
  unfold evalC
  rw [Bool.eq_iff_iff, List.any_eq_true, List.any_eq_true]
  constructor
  · rintro ⟨x, hx, h⟩; exact ⟨x, row_mem hx, h⟩
  · rintro ⟨x, hx, h⟩
    refine ⟨x, ((row_spec c).2 x).2 ⟨hx, ?_⟩, h⟩
    cases hl : lit x
    · rw [holds_lit hl] at h; cases h
    · rfl

/-! ### Formulas -/
def okL (n l : Int) : Bool := decide (1 ≤ numb l ∧ numb l ≤ n)
def mayM (n : Int) (f : List (List Int)) : Bool := decide (0 ≤ n ∧ n ≤ 65536) && f.all fun c => c.all (okL n)
theorem okL_ref {n l : Int} (hn : 0 ≤ n) (hn1 : n ≤ 65536) (h : Wf l) : okL n l = true ↔ ¬ l = 0 ∧ ¬ n < l ∧ ¬ l < -n := by
  unfold okL; rw [decide_eq_true_iff]
  have := numb_cases h
  omega
/-- Does a literal stand in a formula? -/
def inF (f : List (List Int)) (x : Int) : Bool := f.any fun c => c.any fun l => l == x
theorem inF_iff {f : List (List Int)} {x : Int} : inF f x = true ↔ ∃ c ∈ f, x ∈ c := by
  unfold inF; simp
/-- What stands one way alone. -/
def pure1 (f : List (List Int)) (v : Int) : List Int := if inF f v && !inF f (-v) then [v] else if inF f (-v) && !inF f v then [-v] else []
def pureTo (f : List (List Int)) (k : Nat) : List Int := (List.range k).flatMap fun (i : Nat) => pure1 f ((i : Int) + 1)
theorem pureTo_succ (f : List (List Int)) (k : Nat) : pureTo f (k + 1) = pureTo f k ++ pure1 f ((k : Int) + 1) := by
  unfold pureTo; rw [List.range_succ, List.flatMap_append]; simp
theorem pure1_len (f : List (List Int)) (v : Int) : (pure1 f v).length ≤ 1 := by unfold pure1; split <;> (try split) <;> simp
theorem pureTo_len (f : List (List Int)) (k : Nat) : (pureTo f k).length ≤ k := by
  induction k with
  | zero => simp [pureTo]
  | succ k ih => rw [pureTo_succ, List.length_append]; have := pure1_len f ((k : Int) + 1); omega
end Go.Proofs.Ytigomnbcalpohaa
