/-
  Parts of the proof, joined: ClauM, UnitM.
-/
import Derived.Test.YtpmdnbdmocdngaaGreatRows
import Derived.Below
import Derived.Lib.SlicesCompact
import Derived.Lib.Hide
import Derived.Sort.Statements

namespace Go.Proofs.YtpmdnbdmocdngaaGreat
open Go.RowKit Go.Sort

theorem snoc_ind {α : Type} {p : List α → Prop} (nil : p []) (snoc : ∀ c l, p c → p (c ++ [l])) : ∀ c, p c := fun c => by
  have h : ∀ r : List α, p r.reverse := fun r => by
    induction r with
    | nil => exact nil
    | cons a ts ih => rw [List.reverse_cons]; exact snoc _ _ ih
  have := h c.reverse
  rwa [List.reverse_reverse] at this
/-! ### Literals -/
def Wf (l : Int) : Prop := -9223372036854775808 ≤ l ∧ l ≤ 9223372036854775807
def numb (l : Int) : Int := if l < 0 then IntKind.i64.wrap (-l) else l
theorem wrap_in {a : Int} (h0 : -9223372036854775808 ≤ a) (h1 : a ≤ 9223372036854775807) : IntKind.i64.wrap a = a := by
  simp [IntKind.wrap, IntKind.bits, IntKind.signed]; omega
theorem numb_pos {l : Int} (h : 0 ≤ l) : numb l = l := by unfold numb; rw [if_neg (by omega)]
theorem numb_neg {l : Int} (h : l < 0) (h1 : -9223372036854775807 ≤ l) : numb l = -l := by unfold numb; rw [if_pos h, wrap_in (by omega) (by omega)]
theorem numb_least : numb (-9223372036854775808) = -9223372036854775808 := by decide
theorem numb_cases {l : Int} (h : Wf l) : (l = -9223372036854775808 ∧ numb l = -9223372036854775808) ∨ (-9223372036854775807 ≤ l ∧ ((0 ≤ l ∧ numb l = l) ∨ (l < 0 ∧ numb l = -l))) := by
  unfold Wf at h
  by_cases e : l = -9223372036854775808
  · subst e; exact .inl ⟨rfl, numb_least⟩
  · right
    refine ⟨by omega, ?_⟩
    by_cases h0 : 0 ≤ l
    · exact .inl ⟨h0, numb_pos h0⟩
    · exact .inr ⟨by omega, numb_neg (by omega) (by omega)⟩
/-- Is it a literal: neither 0 nor the least number? -/
def lit (l : Int) : Bool := decide (1 ≤ numb l)
theorem lit_iff {l : Int} (h : Wf l) : lit l = true ↔ l ≠ 0 ∧ l ≠ -9223372036854775808 := by
  unfold lit; rw [decide_eq_true_iff]
  have := numb_cases h
  omega
/-- By number, v ahead of -v. -/
def ltL (x y : Int) : Bool := decide (numb x < numb y ∨ (numb x = numb y ∧ y < x))
def cmpI (x y : Int) : Int := if x < y then -1 else if y < x then 1 else 0
def cfM (x y : Int) : Int := if cmpI (numb x) (numb y) = 0 then cmpI y x else cmpI (numb x) (numb y)
theorem ltL_iff {x y : Int} : ltL x y = true ↔ numb x < numb y ∨ (numb x = numb y ∧ y < x) := by unfold ltL; rw [decide_eq_true_iff]
theorem ltL_irr (x : Int) : ltL x x = false := by unfold ltL; rw [decide_eq_false_iff_not]; omega
theorem ltL_trans {x y z : Int} (h : ltL x y = true) (k : ltL y z = true) : ltL x z = true := by rw [ltL_iff] at *; omega
theorem ltL_asymm {x y : Int} (h : ltL x y = true) : ltL y x = false := by
  cases k : ltL y x
  · rfl
  · rw [ltL_iff] at h k; omega
theorem ltL_tot {x y : Int} (h : ltL x y = false) (k : ltL y x = false) : x = y := by
  unfold ltL at h k; rw [decide_eq_false_iff_not] at h k; omega
/-! ### Rows that rise -/
def Rise (l : List Int) : Prop := l.Pairwise fun x y => ltL x y = true
theorem Rise.ext : ∀ {a b : List Int}, Rise a → Rise b → (∀ x, x ∈ a ↔ x ∈ b) → a = b
  | [], [], _, _, _ => rfl
  | [], y :: b, _, _, h => by have := (h y).2 (by simp); cases this
  | x :: a, [], _, _, h => by have := (h x).1 (by simp); cases this
  | x :: a, y :: b, ha, hb, h => by
    have ha' := List.pairwise_cons.1 ha
    have hb' := List.pairwise_cons.1 hb
    have e : x = y := by
      rcases List.mem_cons.1 ((h x).1 (by simp)) with e | hx
      · exact e
      · rcases List.mem_cons.1 ((h y).2 (by simp)) with e | hy
        · exact e.symm
        · have := ltL_asymm (ha'.1 y hy); rw [hb'.1 x hx] at this; cases this
    subst e
    congr 1
    refine Rise.ext ha'.2 hb'.2 fun z => ⟨fun hz => ?_, fun hz => ?_⟩
    · rcases List.mem_cons.1 ((h z).1 (by simp [hz])) with e | hz'
      · subst e; have := ha'.1 z hz; rw [ltL_irr] at this; cases this
      · exact hz'
    · rcases List.mem_cons.1 ((h z).2 (by simp [hz])) with e | hz'
      · subst e; have := hb'.1 z hz; rw [ltL_irr] at this; cases this
      · exact hz'
/-- One more, in its place. -/
def ins (l : Int) : List Int → List Int
  | [] => [l]
  | a :: ts => if ltL a l = true then a :: ins l ts else if a = l then a :: ts else l :: a :: ts
theorem mem_ins {l x : Int} : ∀ {o : List Int}, x ∈ ins l o ↔ x = l ∨ x ∈ o
  | [] => by simp [ins]
  | a :: ts => by
    unfold ins
    split
    · simp [mem_ins (o := ts)]; constructor <;> (intro h; rcases h with h | h | h <;> simp [h])
    · split
      · rename_i e; subst e; simp
      · simp
theorem Rise.ins {l : Int} : ∀ {o : List Int}, Rise o → Rise (ins l o)
  | [], _ => by simp [Rise, Go.Proofs.YtpmdnbdmocdngaaGreat.ins]
  | a :: ts, h => by
    have h' := List.pairwise_cons.1 h
    unfold Go.Proofs.YtpmdnbdmocdngaaGreat.ins
    split
    · rename_i hl
      refine List.pairwise_cons.2 ⟨fun x hx => ?_, Rise.ins h'.2⟩
      rcases mem_ins.1 hx with rfl | hx
      · exact hl
      · exact h'.1 x hx
    · split
      · exact h
      · rename_i hl hne
        have hla : ltL l a = true := by
          cases k : ltL l a
          · exact absurd (ltL_tot (by simpa using hl) k) hne
          · rfl
        refine List.pairwise_cons.2 ⟨fun x hx => ?_, h⟩
        rcases List.mem_cons.1 hx with rfl | hx
        · exact hla
        · exact ltL_trans hla (h'.1 x hx)
/-- The literals of a clause, each of them once, in order. -/
def row (c : List Int) : List Int := c.foldl (fun o l => if lit l = true then ins l o else o) []
theorem row_snoc (c : List Int) (l : Int) : row (c ++ [l]) = if lit l = true then ins l (row c) else row c := by simp [row]
theorem row_spec (c : List Int) : Rise (row c) ∧ ∀ x, x ∈ row c ↔ x ∈ c ∧ lit x = true := by
  refine snoc_ind (p := fun c => Rise (row c) ∧ ∀ x, x ∈ row c ↔ x ∈ c ∧ lit x = true) ⟨by simp [row, Rise], by simp [row]⟩ (fun c l ih => ?_) c
  · show Rise _ ∧ _
    rw [row_snoc]
    split
    · rename_i h
      refine ⟨ih.1.ins, fun x => ?_⟩
      rw [mem_ins, ih.2]; simp
      constructor
      · rintro (rfl | ⟨a, b⟩)
        · exact ⟨.inr rfl, h⟩
        · exact ⟨.inl a, b⟩
      · rintro ⟨a | rfl, b⟩
        · exact .inr ⟨a, b⟩
        · exact .inl rfl
    · rename_i h
      refine ⟨ih.1, fun x => ?_⟩
      rw [ih.2]; simp
      intro hx e
      subst e; exact absurd hx h
theorem row_len (c : List Int) : (row c).length ≤ c.length := by
  have hi : ∀ (l : Int) (o : List Int), (ins l o).length ≤ o.length + 1 := fun l o => by
    induction o with
    | nil => simp [ins]
    | cons a ts ih =>
      unfold ins
      split
      · simp; omega
      · split <;> simp
  refine snoc_ind (p := fun c => (row c).length ≤ c.length) (by simp [row]) (fun c l ih => ?_) c
  · show _ ≤ _
    rw [row_snoc, List.length_append, List.length_singleton]
    split
    · have := hi l (row c); omega
    · omega
theorem row_lit {c : List Int} {x : Int} (h : x ∈ row c) : lit x = true := (((row_spec c).2 x).1 h).2
theorem row_mem {c : List Int} {x : Int} (h : x ∈ row c) : x ∈ c := (((row_spec c).2 x).1 h).1

/-! ### What the library's sort and its compacting leave -/
theorem compact_mem {x : Int} (s : List Int) : x ∈ Lib.compact s ↔ x ∈ s := by
  unfold Lib.compact Lib.compactUpTo
  simp only [List.mem_map, List.mem_filter, List.mem_range]
  constructor
  · rintro ⟨i, ⟨hi, _⟩, rfl⟩
    have : i < s.toArray.size := by simpa using hi
    rw [getElem!_pos _ i this]
    simp
  · intro hx
    obtain ⟨i, hi, rfl⟩ := List.mem_iff_getElem.1 hx
    induction i using Nat.strongRecOn with
    | _ i ih =>
      by_cases hk : Lib.keeps s.toArray i = true
      · exact ⟨i, ⟨hi, hk⟩, by rw [getElem!_pos _ i (by simpa using hi)]; simp⟩
      · unfold Lib.keeps at hk
        simp only [decide_eq_true_eq, not_or, Decidable.not_not] at hk
        obtain ⟨h0, he⟩ := hk
        have hj : i - 1 < s.length := by omega
        rw [getElem!_pos _ i (by simpa using hi), getElem!_pos _ (i - 1) (by simpa using hj)] at he
        simp at he
        obtain ⟨k, hk1, hk2⟩ := ih (i - 1) (by omega) hj (List.getElem_mem _)
        exact ⟨k, hk1, by rw [hk2, he]⟩
theorem compact_rise {s : List Int} (h : s.Pairwise fun x y => ltL y x = false) : Rise (Lib.compact s) := by
  unfold Lib.compact Lib.compactUpTo Rise
  rw [List.pairwise_map]
  refine (List.Pairwise.filter _ (List.pairwise_lt_range (n := s.length))).imp_of_mem ?_
  intro i j hi hj hij
  have hk := (List.mem_filter.1 hj).2
  have hj' : j < s.length := by simpa using (List.mem_filter.1 hj).1
  unfold Lib.keeps at hk
  simp only [decide_eq_true_eq] at hk
  have hk := hk.resolve_left (by omega)
  rw [getElem!_pos _ j (by simpa using hj'), getElem!_pos _ (j - 1) (by simp; omega)] at hk
  rw [getElem!_pos _ j (by simpa using hj'), getElem!_pos _ i (by simp; omega)]
  simp at hk ⊢
  have g := List.pairwise_iff_getElem.1 h
  have h1 : ltL s[j] (s[j - 1]'(by omega)) = false := g (j - 1) j (by omega) hj' (by omega)
  have h2 : ltL (s[j - 1]'(by omega)) s[j] = true := by
    cases k : ltL (s[j - 1]'(by omega)) s[j]
    · exact absurd (ltL_tot h1 k) hk
    · rfl
  by_cases e : i = j - 1
  · subst e; exact h2
  · have h3 : ltL (s[j - 1]'(by omega)) (s[i]'(by omega)) = false := g i (j - 1) (by omega) (by omega) (by omega)
    cases k : ltL (s[i]'(by omega)) (s[j - 1]'(by omega))
    · have := ltL_tot k h3; rw [this]; exact h2
    · exact ltL_trans k h2
/-! ### Clauses that always hold -/
def taut : List Int → Bool
  | x :: y :: t => decide (y = -x) || taut (y :: t)
  | _ => false
theorem taut_iff : ∀ {s : List Int}, taut s = true ↔ ∃ (i : Nat) (x y : Int), s[i]? = some x ∧ s[i + 1]? = some y ∧ y = -x
  | [] => by simp [taut]
  | [a] => by simp [taut]
  | a :: b :: t => by
    unfold taut
    rw [Bool.or_eq_true, taut_iff (s := b :: t), decide_eq_true_iff]
    constructor
    · rintro (h | ⟨i, x, y, h1, h2, h3⟩)
      · exact ⟨0, a, b, rfl, rfl, h⟩
      · exact ⟨i + 1, x, y, by simpa using h1, by simpa using h2, h3⟩
    · rintro ⟨i, x, y, h1, h2, h3⟩
      cases i with
      | zero => simp at h1 h2; subst h1; subst h2; exact .inl h3
      | succ i => exact .inr ⟨i, x, y, by simpa using h1, by simpa using h2, h3⟩
/-- A clause as Normal answers it. -/
def nrm (c : List Int) : List Int × Bool := (if taut (row c) = true then [] else row c, taut (row c))
/-! ### What holds -/
def holdsM (m : List Bool) (l : Int) : Bool := if numb l < 1 then false else (m[(numb l - 1).toNat]?.getD false) == decide (0 < l)
def evalC (m : List Bool) (c : List Int) : Bool := c.any (holdsM m)
def evalM (m : List Bool) (f : List (List Int)) : Bool := f.all (evalC m)
/-! ### Formulas -/
def okL (n l : Int) : Bool := decide (1 ≤ numb l ∧ numb l ≤ n)
def mayM (n : Int) (f : List (List Int)) : Bool := decide (0 ≤ n ∧ n ≤ 65536) && f.all fun c => c.all (okL n)
theorem okL_ref {n l : Int} (hn : 0 ≤ n) (hn1 : n ≤ 65536) (h : Wf l) : okL n l = true ↔ ¬ l = 0 ∧ ¬ n < l ∧ ¬ l < -n := by
  unfold okL; rw [decide_eq_true_iff]
  have := numb_cases h
  omega
end Go.Proofs.YtpmdnbdmocdngaaGreat

namespace Go.Proofs.YtpmdnbdmocdngaaGreat
set_option linter.unusedVariables false

/-! ### Literals and truths -/
/-- A literal of n numbers. -/
def LOk (n : Nat) (l : Int) : Prop := l ≠ 0 ∧ -(n : Int) ≤ l ∧ l ≤ n
theorem LOk.neg {n : Nat} {l : Int} (h : LOk n l) : LOk n (-l) := by unfold LOk at *; omega
theorem LOk.form {n : Nat} {l : Int} (h : LOk n l) : ∃ i : Nat, i < n ∧ (l = (i : Int) + 1 ∨ l = -((i : Int) + 1)) := by
  unfold LOk at h
  by_cases e : l < 0
  · exact ⟨(-l - 1).toNat, by omega, .inr (by omega)⟩
  · exact ⟨(l - 1).toNat, by omega, .inl (by omega)⟩
/-- A row of truths: false, open, true. -/
def TV (n : Nat) (t : List Int) : Prop := t.length = n ∧ ∀ (i : Nat) (x : Int), t[i]? = some x → x = -1 ∨ x = 0 ∨ x = 1
/-- What a literal is worth. -/
def wo (t : List Int) (l : Int) : Int := if l < 0 then -(t[(-l - 1).toNat]?.getD 0) else t[(l - 1).toNat]?.getD 0
theorem wo_pos (t : List Int) (i : Nat) : wo t ((i : Int) + 1) = t[i]?.getD 0 := by
  unfold wo; rw [if_neg (by omega), show ((i : Int) + 1 - 1).toNat = i by omega]
theorem wo_neg (t : List Int) (i : Nat) : wo t (-((i : Int) + 1)) = -(t[i]?.getD 0) := by
  unfold wo; rw [if_pos (by omega), show (- -((i : Int) + 1) - 1).toNat = i by omega]
theorem wo_opp {n : Nat} {t : List Int} {l : Int} (h : LOk n l) : wo t (-l) = -wo t l := by
  obtain ⟨i, _, rfl | rfl⟩ := h.form
  · rw [wo_neg, wo_pos]
  · rw [Int.neg_neg, wo_neg, wo_pos, Int.neg_neg]
theorem wo_cases {n : Nat} {t : List Int} (h : TV n t) (l : Int) : wo t l = -1 ∨ wo t l = 0 ∨ wo t l = 1 := by
  have key : ∀ k : Nat, t[k]?.getD 0 = -1 ∨ t[k]?.getD 0 = 0 ∨ t[k]?.getD 0 = 1 := fun k => by
    cases e : t[k]? with
    | none => simp
    | some x => simpa using h.2 k x e
  unfold wo
  split
  · rcases key (-l - 1).toNat with e | e | e <;> rw [e] <;> simp
  · exact key _
/-- What is assigned in t is so in u. -/
def Up (t u : List Int) : Prop := ∀ (i : Nat) (x : Int), t[i]? = some x → x ≠ 0 → u[i]? = some x
theorem Up.refl (t : List Int) : Up t t := fun i x h _ => h
theorem Up.trans {t u v : List Int} (h : Up t u) (k : Up u v) : Up t v := fun i x hx h0 => k i x (h i x hx h0) h0
theorem Up.wo {t u : List Int} (h : Up t u) {l : Int} (h0 : wo t l ≠ 0) : Go.Proofs.YtpmdnbdmocdngaaGreat.wo u l = Go.Proofs.YtpmdnbdmocdngaaGreat.wo t l := by
  have key : ∀ k : Nat, t[k]?.getD 0 ≠ 0 → u[k]?.getD 0 = t[k]?.getD 0 := fun k hk => by
    cases e : t[k]? with
    | none => rw [e] at hk; simp at hk
    | some x => rw [e] at hk; simp at hk; rw [h k x e hk]
  unfold Go.Proofs.YtpmdnbdmocdngaaGreat.wo at *
  split
  · rename_i hl; rw [if_pos hl] at h0; rw [key _ (by omega)]
  · rename_i hl; rw [if_neg hl] at h0; rw [key _ h0]
/-! ### Formulas at rest -/
def RestC (u : List Int) (c : List Int) : Prop := (∃ x ∈ c, wo u x = 1) ∨ ∃ x ∈ c, ∃ y ∈ c, x ≠ y ∧ wo u x = 0 ∧ wo u y = 0
def Rest (f : List (List Int)) (u : List Int) : Prop := ∀ c ∈ f, RestC u c
def Low (n : Nat) (f : List (List Int)) (m t : List Int) : Prop := ∀ u, TV n u → Up m u → Rest f u → Up t u
/-- What is answered: the least truths at rest, or nothing where there are none. -/
def Ans (n : Nat) (f : List (List Int)) (m : List Int) : Option (List Int) → Prop
  | some t => TV n t ∧ Up m t ∧ Rest f t ∧ Low n f m t
  | none => ∀ u, TV n u → Up m u → ¬ Rest f u
theorem Ans.rests {n : Nat} {f g : List (List Int)} {m : List Int} (h : ∀ u, TV n u → (Rest f u ↔ Rest g u)) : ∀ {r : Option (List Int)}, Ans n f m r → Ans n g m r
  | none, k => fun u hu hm hg => k u hu hm ((h u hu).2 hg)
  | some t, k => ⟨k.1, k.2.1, (h t k.1).1 k.2.2.1, fun u hu hm hg => k.2.2.2 u hu hm ((h u hu).2 hg)⟩
theorem RestC.mems {u c d : List Int} (h : ∀ x, x ∈ c ↔ x ∈ d) : RestC u c ↔ RestC u d := by
  unfold RestC
  constructor
  · rintro (⟨x, a, b⟩ | ⟨x, a, y, b, e⟩)
    · exact .inl ⟨x, (h x).1 a, b⟩
    · exact .inr ⟨x, (h x).1 a, y, (h y).1 b, e⟩
  · rintro (⟨x, a, b⟩ | ⟨x, a, y, b, e⟩)
    · exact .inl ⟨x, (h x).2 a, b⟩
    · exact .inr ⟨x, (h x).2 a, y, (h y).2 b, e⟩
theorem Rest.perm {f g : List (List Int)} {u : List Int} (h : ∀ c, c ∈ f ↔ c ∈ g) : Rest f u ↔ Rest g u :=
  ⟨fun k c hc => k c ((h c).2 hc), fun k c hc => k c ((h c).1 hc)⟩

/-! ### One literal made to hold -/
/-- Where a literal's number stands. -/
def at_ (l : Int) : Nat := if l < 0 then (-l - 1).toNat else (l - 1).toNat
def sg (l : Int) : Int := if l < 0 then -1 else 1
def setL (t : List Int) (l : Int) : List Int := t.set (at_ l) (sg l)
theorem at_pos (i : Nat) : at_ ((i : Int) + 1) = i := by unfold at_; rw [if_neg (by omega)]; omega
theorem at_neg (i : Nat) : at_ (-((i : Int) + 1)) = i := by unfold at_; rw [if_pos (by omega)]; omega
theorem at_lt {n : Nat} {l : Int} (h : LOk n l) : at_ l < n := by
  obtain ⟨i, hi, rfl | rfl⟩ := h.form
  · rw [at_pos]; exact hi
  · rw [at_neg]; exact hi
theorem wo_at {n : Nat} {t : List Int} {l : Int} (ht : TV n t) (h : LOk n l) : t[at_ l]? = some (sg l * wo t l) := by
  obtain ⟨i, hi, rfl | rfl⟩ := h.form
  all_goals
    obtain ⟨x, hx⟩ : ∃ x, t[i]? = some x := ⟨_, List.getElem?_eq_getElem (by rw [ht.1]; exact hi)⟩
  · rw [at_pos, wo_pos, hx]; unfold sg; rw [if_neg (by omega)]; simp
  · rw [at_neg, wo_neg, hx]; unfold sg; rw [if_pos (by omega)]; simp
theorem setL_get {n : Nat} {t : List Int} {l : Int} (ht : TV n t) (h : LOk n l) (i : Nat) : (setL t l)[i]? = if i = at_ l then some (sg l) else t[i]? := by
  unfold setL
  by_cases e : i = at_ l
  · subst e; rw [if_pos rfl, List.getElem?_set_self (by rw [ht.1]; exact at_lt h)]
  · rw [if_neg e, List.getElem?_set_ne (fun k => e k.symm)]
theorem setL_tv {n : Nat} {t : List Int} {l : Int} (ht : TV n t) (h : LOk n l) : TV n (setL t l) := by
  refine ⟨by unfold setL; rw [List.length_set, ht.1], fun i x hx => ?_⟩
  rw [setL_get ht h] at hx
  split at hx
  · injection hx with hx; subst hx; unfold sg; split <;> simp
  · exact ht.2 i x hx
theorem setL_up {n : Nat} {t : List Int} {l : Int} (ht : TV n t) (h : LOk n l) (h0 : wo t l = 0) : Up t (setL t l) := by
  intro i x hx hx0
  rw [setL_get ht h]
  by_cases e : i = at_ l
  · subst e
    rw [wo_at ht h, h0] at hx; simp at hx; exact absurd hx.symm hx0
  · rw [if_neg e]; exact hx
theorem setL_one {n : Nat} {t : List Int} {l : Int} (ht : TV n t) (h : LOk n l) : wo (setL t l) l = 1 := by
  have h1 := wo_at (setL_tv ht h) h
  rw [setL_get ht h, if_pos rfl] at h1
  injection h1 with h1
  unfold sg at h1
  split at h1 <;> omega
theorem setL_other {n : Nat} {t : List Int} {l x : Int} (ht : TV n t) (h : LOk n l) (hx : LOk n x) (h0 : wo t l = 0) (h1 : wo (setL t l) x = 1) : x = l ∨ wo t x = 1 := by
  by_cases e : at_ x = at_ l
  · obtain ⟨i, hi, hi'⟩ := hx.form
    obtain ⟨j, hj, hj'⟩ := h.form
    have hij : i = j := by
      have a : at_ x = i := by rcases hi' with rfl | rfl; exact at_pos i; exact at_neg i
      have b : at_ l = j := by rcases hj' with rfl | rfl; exact at_pos j; exact at_neg j
      omega
    subst hij
    by_cases hxl : x = l
    · exact .inl hxl
    · have : x = -l := by omega
      subst this
      rw [wo_opp h, setL_one ht h] at h1
      omega
  · right
    have g := wo_at (setL_tv ht h) hx
    rw [setL_get ht h, if_neg e, wo_at ht hx] at g
    injection g with g
    rw [h1] at g
    unfold sg at g
    split at g <;> omega
theorem Low.step {n : Nat} {f : List (List Int)} {m t : List Int} {c : List Int} {l : Int} (h : Low n f m t) (hc : c ∈ f) (hl : l ∈ c) (ok : LOk n l) (ht : TV n t) (hot : ∀ y ∈ c, y ≠ l → wo t y = -1) : Low n f m (setL t l) := by
  intro u hu hm hr
  have hut := h u hu hm hr
  have hy : ∀ y ∈ c, y ≠ l → wo u y = -1 := fun y hy hne => by
    rw [hut.wo (by rw [hot y hy hne]; decide), hot y hy hne]
  have h1 : wo u l = 1 := by
    rcases hr c hc with ⟨x, hx, h1⟩ | ⟨x, hx, y, hy', hne, hx0, hy0⟩
    · by_cases e : x = l
      · rw [← e]; exact h1
      · rw [hy x hx e] at h1; cases h1
    · by_cases e : x = l
      · have := hy y hy' (fun k => hne (e.trans k.symm)); omega
      · have := hy x hx e; omega
  intro i x hx hx0
  rw [setL_get ht ok] at hx
  split at hx
  · rename_i e
    subst e
    rw [← hx, wo_at hu ok, h1]; simp
  · exact hut i x hx hx0
theorem Low.bad {n : Nat} {f : List (List Int)} {m t : List Int} {c : List Int} (h : Low n f m t) (hc : c ∈ f) (hot : ∀ y ∈ c, wo t y = -1) : Ans n f m none := by
  intro u hu hm hr
  have hut := h u hu hm hr
  have hy : ∀ y ∈ c, wo u y = -1 := fun y hy => by rw [hut.wo (by rw [hot y hy]; decide), hot y hy]
  rcases hr c hc with ⟨x, hx, h1⟩ | ⟨x, hx, y, _, _, hx0, _⟩
  · rw [hy x hx] at h1; cases h1
  · rw [hy x hx] at hx0; cases hx0

/-! ### The clauses that count -/
def cls (f : List (List Int)) : List (List Int) := (f.map row).filter fun r => !taut r
theorem cls_no {f : List (List Int)} {c : List Int} (h : taut (row c) = true) : cls (f ++ [c]) = cls f := by unfold cls; simp [h]
theorem cls_yes {f : List (List Int)} {c : List Int} (h : taut (row c) = false) : cls (f ++ [c]) = cls f ++ [row c] := by unfold cls; simp [h]
def FOk (n : Nat) (f : List (List Int)) : Prop := ∀ c ∈ f, ∀ l ∈ c, LOk n l
theorem LOk.lit {n : Nat} {l : Int} (h : LOk n l) (hn : n ≤ 65536) : Go.Proofs.YtpmdnbdmocdngaaGreat.lit l = true := by
  unfold LOk at h
  exact (lit_iff (by unfold Wf; omega)).2 (by omega)
theorem row_mems {n : Nat} {c : List Int} (h : ∀ l ∈ c, LOk n l) (hn : n ≤ 65536) (x : Int) : x ∈ row c ↔ x ∈ c :=
  ⟨row_mem, fun hx => ((row_spec c).2 x).2 ⟨hx, (h x hx).lit hn⟩⟩
theorem cls_ok {n : Nat} {f : List (List Int)} (h : FOk n f) : FOk n (cls f) := by
  intro c hc l hl
  unfold cls at hc
  obtain ⟨hc, _⟩ := List.mem_filter.1 hc
  obtain ⟨d, hd, rfl⟩ := List.mem_map.1 hc
  exact h d hd l (row_mem hl)
theorem cls_rest {n : Nat} {f : List (List Int)} {u : List Int} (h : FOk n f) (hn : n ≤ 65536) (hu : TV n u) : Rest (cls f) u ↔ Rest f u := by
  constructor
  · intro k c hc
    have hm := row_mems (h c hc) hn
    cases ht : taut (row c) with
    | false =>
      exact (RestC.mems hm).1 (k (row c) (List.mem_filter.2 ⟨List.mem_map_of_mem hc, by rw [ht]; rfl⟩))
    | true =>
      obtain ⟨i, x, y, hx, hy, e⟩ := taut_iff.1 ht
      have hx := (hm x).1 (List.mem_of_getElem? hx)
      have hy := (hm y).1 (List.mem_of_getElem? hy)
      subst e
      have ok := h c hc x hx
      have ho := wo_opp (t := u) ok
      rcases wo_cases hu x with e | e | e
      · exact .inl ⟨-x, hy, by omega⟩
      · exact .inr ⟨x, hx, -x, hy, by have := ok.1; omega, e, by omega⟩
      · exact .inl ⟨x, hx, e⟩
  · intro k c hc
    unfold cls at hc
    obtain ⟨hc, _⟩ := List.mem_filter.1 hc
    obtain ⟨d, hd, rfl⟩ := List.mem_map.1 hc
    exact (RestC.mems (row_mems (h d hd) hn)).2 (k d hd)
theorem rise_nodup {c : List Int} (h : Rise c) : c.Nodup := by
  refine List.Pairwise.imp ?_ h
  intro x y hxy e
  subst e; rw [ltL_irr] at hxy; cases hxy
theorem cls_nodup {f : List (List Int)} {c : List Int} (h : c ∈ cls f) : c.Nodup := by
  unfold cls at h
  obtain ⟨hc, _⟩ := List.mem_filter.1 h
  obtain ⟨d, _, rfl⟩ := List.mem_map.1 hc
  exact rise_nodup (row_spec d).1

/-! ### What holds, and what is gone -/
/-- How many of a clause's literals are not gone, where done was gone through. -/
def cnt (done : List Int) (c : List Int) : Nat := (c.filter fun x => decide (-x ∉ done)).length
theorem cnt_nil (c : List Int) : cnt [] c = c.length := by unfold cnt; simp
theorem cnt_yes {done c : List Int} {h : Int} (hc : c.Nodup) (hm : -h ∈ c) (hd : h ∉ done) : cnt (done ++ [h]) c + 1 = cnt done c := by
  unfold cnt
  induction c with
  | nil => simp at hm
  | cons a ts ih =>
    have hn := List.nodup_cons.1 hc
    by_cases e : a = -h
    · subst e
      rw [List.filter_cons, List.filter_cons, if_neg (by simp), if_pos (by simp [hd]), List.length_cons]
      congr 2
      refine List.filter_congr fun x hx => ?_
      have : x ≠ -h := fun k => hn.1 (k ▸ hx)
      have : -x ≠ h := by omega
      simp [this]
    · have hm' : -h ∈ ts := by rcases List.mem_cons.1 hm with k | k; exact absurd k.symm e; exact k
      have := ih hn.2 hm'
      have ha : -a ≠ h := by omega
      rw [List.filter_cons, List.filter_cons]
      by_cases hd' : -a ∈ done
      · rw [if_neg (by simp [hd']), if_neg (by simp [hd'])]; exact this
      · rw [if_pos (by simp [hd', ha]), if_pos (by simp [hd'])]; simp only [List.length_cons]; omega
theorem cnt_no {done c : List Int} {h : Int} (hm : -h ∉ c) : cnt (done ++ [h]) c = cnt done c := by
  unfold cnt
  congr 1
  refine List.filter_congr fun x hx => ?_
  have : x ≠ -h := fun k => hm (k ▸ hx)
  have : -x ≠ h := by omega
  simp [this]
theorem cnt_two {done c : List Int} {x y : Int} (hx : x ∈ c) (hy : y ∈ c) (hxd : -x ∉ done) (hyd : -y ∉ done) (hne : x ≠ y) : 2 ≤ cnt done c := by
  unfold cnt
  have mx : x ∈ c.filter fun x => decide (-x ∉ done) := List.mem_filter.2 ⟨hx, by simpa using hxd⟩
  have my : y ∈ c.filter fun x => decide (-x ∉ done) := List.mem_filter.2 ⟨hy, by simpa using hyd⟩
  generalize c.filter (fun x => decide (-x ∉ done)) = s at mx my
  match s, mx, my with
  | [a], mx, my => simp at mx my; exact absurd (mx.trans my.symm) hne
  | a :: b :: s, _, _ => simp
theorem two_of_cnt {done c : List Int} (hc : c.Nodup) (h : 2 ≤ cnt done c) : ∃ x ∈ c, ∃ y ∈ c, x ≠ y ∧ -x ∉ done ∧ -y ∉ done := by
  unfold cnt at h
  have hn : (c.filter fun x => decide (-x ∉ done)).Nodup := hc.sublist List.filter_sublist
  have hm : ∀ x ∈ c.filter (fun x => decide (-x ∉ done)), x ∈ c ∧ -x ∉ done := fun x hx => by
    have := List.mem_filter.1 hx; exact ⟨this.1, by simpa using this.2⟩
  generalize c.filter (fun x => decide (-x ∉ done)) = s at h hn hm
  match s, h with
  | a :: b :: s, _ =>
    exact ⟨a, (hm a (by simp)).1, b, (hm b (by simp)).1, fun e => by subst e; simp at hn, (hm a (by simp)).2, (hm b (by simp)).2⟩
/-- The truths, and the literals that hold. -/
structure Hs (n : Nat) (t hs : List Int) : Prop where
  tv : TV n t
  ok : ∀ l ∈ hs, LOk n l ∧ wo t l = 1
  all : ∀ l, LOk n l → wo t l = 1 → l ∈ hs
  once : hs.Nodup
  len : hs.length + t.count 0 = n
theorem Hs.le {n : Nat} {t hs : List Int} (h : Hs n t hs) : hs.length ≤ n := by have := h.len; omega
theorem Hs.hold {n : Nat} {t hs : List Int} {l : Int} (h : Hs n t hs) (ok : LOk n l) (h0 : wo t l = 0) : Hs n (setL t l) (hs ++ [l]) := by
  have up := setL_up h.tv ok h0
  refine ⟨setL_tv h.tv ok, fun x hx => ?_, fun x hx h1 => ?_, ?_, ?_⟩
  · rcases List.mem_append.1 hx with hx | hx
    · have := h.ok x hx
      exact ⟨this.1, by rw [up.wo (by rw [this.2]; decide), this.2]⟩
    · simp at hx; subst hx; exact ⟨ok, setL_one h.tv ok⟩
  · rcases setL_other h.tv ok hx h0 h1 with e | e
    · simp [e]
    · exact List.mem_append_left _ (h.all x hx e)
  · refine List.nodup_append.2 ⟨h.once, by simp, fun x hx y hy e => ?_⟩
    simp at hy; subst hy; subst e
    have := (h.ok x hx).2; omega
  · have hat := wo_at h.tv ok
    rw [h0] at hat; simp at hat
    have hlt : at_ l < t.length := by rw [h.tv.1]; exact at_lt ok
    have hg : t[at_ l] = 0 := by rw [List.getElem?_eq_getElem hlt] at hat; injection hat
    have hc := List.count_set (a := sg l) (b := (0 : Int)) hlt
    have hpos : 0 < t.count 0 := List.count_pos_iff.2 (hg ▸ List.getElem_mem hlt)
    have hsg : (sg l == (0 : Int)) = false := by unfold sg; split <;> rfl
    rw [hg, hsg] at hc
    simp at hc
    have := h.len
    unfold setL
    rw [List.length_append, hc]; simp; omega
end Go.Proofs.YtpmdnbdmocdngaaGreat
