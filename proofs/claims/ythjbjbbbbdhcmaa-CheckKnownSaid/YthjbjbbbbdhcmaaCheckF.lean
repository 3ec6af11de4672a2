/-
  Reaching, round by round till nothing changes: plain data.
-/
import Derived.Test.YthjbjbbbbdhcmaaCheckM
namespace Go.Proofs.Ythjbjbbbbdhcmaa
set_option linter.unusedVariables false

/-- One more is marked. -/
def mrk (f : Nat → Nat → Bool) (i h : Nat) : Nat → Nat → Bool := fun a b => f a b || (decide (a = i) && decide (b = h))
theorem mk_self (f : Nat → Nat → Bool) (i h : Nat) : mrk f i h i h = true := by simp [mrk]
theorem mk_old {f : Nat → Nat → Bool} {i h a b : Nat} (hf : f a b = true) : mrk f i h a b = true := by simp [mrk, hf]
theorem mk_is {f : Nat → Nat → Bool} {i h a b : Nat} (hf : mrk f i h a b = true) : f a b = true ∨ (a = i ∧ b = h) := by
  simp only [mrk, Bool.or_eq_true, Bool.and_eq_true, decide_eq_true_eq] at hf
  exact hf
def allP (n : Nat) : List (Nat × Nat) := (List.range n).flatMap fun i => (List.range 17).map fun h => (i, h)
theorem mem_allP {n i h : Nat} (hi : i < n) (hh : h < 17) : (i, h) ∈ allP n := by
  unfold allP
  rw [List.mem_flatMap]
  exact ⟨i, List.mem_range.2 hi, List.mem_map.2 ⟨h, List.mem_range.2 hh, rfl⟩⟩
/-- How many are not marked. -/
def left (f : Nat → Nat → Bool) (n : Nat) : Nat := (allP n).countP fun p => !f p.1 p.2
theorem countP_lt {α : Type} {p q : α → Bool} : ∀ {l : List α}, (∀ x ∈ l, q x = true → p x = true) → (∃ x ∈ l, p x = true ∧ q x = false) → l.countP q < l.countP p
  | [], _, ⟨x, hx, _⟩ => by cases hx
  | a :: l, h, ⟨x, hx, h1, h2⟩ => by
    have hle : l.countP q ≤ l.countP p := List.countP_mono_left fun y hy => h y (List.mem_cons_of_mem _ hy)
    rcases List.mem_cons.1 hx with rfl | hx
    · rw [List.countP_cons_of_pos h1, List.countP_cons_of_neg (by rw [h2]; decide)]
      omega
    · have ih := countP_lt (fun y hy => h y (List.mem_cons_of_mem _ hy)) ⟨x, hx, h1, h2⟩
      cases hq : q a with
      | true =>
        rw [List.countP_cons_of_pos hq, List.countP_cons_of_pos (h a List.mem_cons_self hq)]
        omega
      | false =>
        rw [List.countP_cons_of_neg (by rw [hq]; decide)]
        have : l.countP p ≤ (a :: l).countP p := by rw [List.countP_cons]; omega
        omega
theorem left_mk {f : Nat → Nat → Bool} {n i h : Nat} (hi : i < n) (hh : h < 17) (hf : f i h = false) : left (mrk f i h) n < left f n := by
  refine countP_lt (fun x _ hx => ?_) ⟨(i, h), mem_allP hi hh, by simp [hf], by simp [mrk]⟩
  simp only [Bool.not_eq_true'] at hx ⊢
  cases hq : f x.1 x.2 with
  | false => rfl
  | true => rw [mk_old hq] at hx; cases hx
theorem left_le (f : Nat → Nat → Bool) (n : Nat) : left f n ≤ n * 17 := by
  refine Nat.le_trans List.countP_le_length ?_
  unfold allP
  induction n with
  | zero => simp
  | succ n ih =>
    rw [List.range_succ (n := n), List.flatMap_append, List.length_append]
    simp only [List.flatMap_cons, List.flatMap_nil, List.append_nil, List.length_map, List.length_range]
    omega
/-- What is marked is reached. -/
def Sound (L : List (Int × Int)) (f : Nat → Nat → Bool) : Prop := f 0 0 = true ∧ ∀ i h, f i h = true → Reach L i h
/-- From here on what is reached is marked. -/
def Cl (L : List (Int × Int)) (f : Nat → Nat → Bool) (i h : Nat) : Prop := f i h = true → ∀ x, L[i]? = some x → stepOk x h → ((x.1 = 22 ∨ x.1 = 23) → f x.2.toNat (toH x h) = true) ∧ (x.1 ≠ 22 → x.1 ≠ 26 → f (i + 1) (toH x h) = true)
theorem Sound.mk {L : List (Int × Int)} {f : Nat → Nat → Bool} {i h : Nat} (s : Sound L f) (r : Reach L i h) : Sound L (mrk f i h) :=
  ⟨mk_old s.1, fun a b hab => by
    rcases mk_is hab with hf | ⟨rfl, rfl⟩
    · exact s.2 a b hf
    · exact r⟩
/-- WHERE ALL IS CLOSED, WHAT IS MARKED IS WHAT IS REACHED. -/
theorem closed_is {L : List (Int × Int)} {f : Nat → Nat → Bool} (s : Sound L f) (c : ∀ i h, i < L.length → h ≤ 16 → Cl L f i h) (i h : Nat) : f i h = true ↔ Reach L i h := by
  refine ⟨s.2 i h, fun r => ?_⟩
  induction r with
  | zero => exact s.1
  | @jump i h x r hx hs hj ih => exact (c i h (List.getElem?_eq_some_iff.1 hx).1 r.le ih x hx hs).1 hj
  | @next i h x r hx hs h1 h2 ih => exact (c i h (List.getElem?_eq_some_iff.1 hx).1 r.le ih x hx hs).2 h1 h2
/-- What has been gone through in this sweep. -/
def Seen (L : List (Int × Int)) (f : Nat → Nat → Bool) (i h : Nat) : Prop := (∀ a b, a < i → b ≤ 16 → Cl L f a b) ∧ ∀ b, b < h → Cl L f i b
theorem Seen.row {L : List (Int × Int)} {f : Nat → Nat → Bool} {i : Nat} (s : Seen L f i 17) : Seen L f (i + 1) 0 :=
  ⟨fun a b ha hb => by
    rcases Nat.lt_or_ge a i with h | h
    · exact s.1 a b h hb
    · obtain rfl : a = i := by omega
      exact s.2 b (by omega), fun b hb => by omega⟩
theorem Seen.next {L : List (Int × Int)} {f : Nat → Nat → Bool} {i h : Nat} (s : Seen L f i h) (c : Cl L f i h) : Seen L f i (h + 1) :=
  ⟨s.1, fun b hb => by
    rcases Nat.lt_or_ge b h with q | q
    · exact s.2 b q
    · obtain rfl : b = h := by omega
      exact c⟩
theorem Seen.zero (L : List (Int × Int)) (f : Nat → Nat → Bool) : Seen L f 0 0 := ⟨fun a b ha => by omega, fun b hb => by omega⟩
end Go.Proofs.Ythjbjbbbbdhcmaa
