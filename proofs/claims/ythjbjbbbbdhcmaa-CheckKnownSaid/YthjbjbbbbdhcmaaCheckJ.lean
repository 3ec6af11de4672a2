/-
  Heights as the bits of a number: what an instruction makes of them, which is the one, which is the highest.
-/
import Derived.Test.YthjbjbbbbdhcmaaCheckR
import Derived.Lib.BitFns
namespace Go.Proofs.Ythjbjbbbbdhcmaa
set_option linter.unusedVariables false

/-- The heights behind an instruction that takes t and gives g. -/
def bh (m t g : Nat) : Nat := (m / 2 ^ t * 2 ^ g) % 131072
theorem bh_lt (m t g : Nat) : bh m t g < 131072 := Nat.mod_lt _ (by decide)
theorem bh_bit (m t g k : Nat) : (bh m t g).testBit k = (decide (k ≤ 16) && (decide (g ≤ k) && m.testBit (k - g + t))) := by
  unfold bh
  rw [show (131072 : Nat) = 2 ^ 17 from rfl, Nat.testBit_mod_two_pow, ← Nat.shiftRight_eq_div_pow, ← Nat.shiftLeft_eq, Nat.testBit_shiftLeft, Nat.testBit_shiftRight, Nat.add_comm t]
  congr 1
  exact decide_eq_decide.2 (by omega)
theorem bit_ex {m : Nat} (h : m ≠ 0) : ∃ k, m.testBit k = true := Nat.exists_testBit_of_ne_zero h
theorem bit_lt {m k : Nat} (hm : m < 131072) (h : m.testBit k = true) : k ≤ 16 := by
  have h1 := Nat.ge_two_pow_of_testBit h
  rcases Nat.lt_or_ge k 17 with h2 | h2
  · omega
  · have : 2 ^ 17 ≤ 2 ^ k := Nat.pow_le_pow_right (by decide) h2
    have e : (2 : Nat) ^ 17 = 131072 := rfl
    omega
/-- One height alone. -/
def single (m : Nat) : Bool := decide (∃ k, k < 17 ∧ m = 2 ^ k)
theorem pow_bit (k j : Nat) : (2 ^ k).testBit j = decide (k = j) := Nat.testBit_two_pow
theorem single_bit {m k : Nat} (h : single m = true) (hk : m.testBit k = true) : ∀ j, m.testBit j = true → j = k := by
  obtain ⟨i, _, rfl⟩ := of_decide_eq_true h
  rw [pow_bit] at hk
  intro j hj
  rw [pow_bit] at hj
  have := of_decide_eq_true hk
  have := of_decide_eq_true hj
  omega
theorem not_single {m k : Nat} (hm : m < 131072) (h : single m = false) (hk : m.testBit k = true) : ∃ j, j ≠ k ∧ m.testBit j = true := by
  have h1 := of_decide_eq_false h
  by_cases e : ∃ j, j ≠ k ∧ m.testBit j = true
  · exact e
  · exfalso
    apply h1
    refine ⟨k, by have := bit_lt hm hk; omega, ?_⟩
    apply Nat.eq_of_testBit_eq
    intro j
    rw [pow_bit]
    by_cases ej : k = j
    · subst ej; rw [hk]; simp
    · rw [decide_eq_false ej]
      cases hj : m.testBit j with
      | false => rfl
      | true => exact absurd ⟨j, fun q => ej q.symm, hj⟩ e
/-- Reached with no more than one height, from which it can be done. -/
def fitB (m t g : Nat) : Bool := decide (m = 0) || (single m && decide (bh m t g ≠ 0))
theorem bitLen_pow : ∀ k : Fin 17, Lib.bitLen (2 ^ k.val) = k.val + 1 := by decide +kernel
theorem bitLen_zero : Lib.bitLen 0 = 0 := by decide +kernel
/-! ### A row of masks -/
/-- The marks of a row of masks. -/
def mks (r : Nat → Nat) : Nat → Nat → Bool := fun i h => (r i).testBit h
def seti (r : Nat → Nat) (k v : Nat) : Nat → Nat := fun j => if j = k then v else r j
theorem seti_self (r : Nat → Nat) (k v : Nat) : seti r k v k = v := by simp [seti]
theorem seti_ne {r : Nat → Nat} {k j v : Nat} (h : j ≠ k) : seti r k v j = r j := by simp [seti, h]
theorem seti_id (r : Nat → Nat) (k : Nat) : seti r k (r k) = r := by
  funext j
  unfold seti
  split
  · rename_i e; rw [e]
  · rfl
theorem or_lt {a b : Nat} (ha : a < 131072) (hb : b < 131072) : a ||| b < 131072 := Nat.or_lt_two_pow (n := 17) ha hb
theorem or_bit (a b k : Nat) : (a ||| b).testBit k = (a.testBit k || b.testBit k) := Nat.testBit_or ..
/-- Fewer are not marked. -/
theorem left_or {r : Nat → Nat} {n a v : Nat} (ha : a < n) (hr : ∀ i, r i < 131072) (hv : v < 131072) (hne : r a ||| v ≠ r a) : left (mks (seti r a (r a ||| v))) n < left (mks r) n := by
  obtain ⟨k, hk1, hk2⟩ : ∃ k, v.testBit k = true ∧ (r a).testBit k = false := by
    by_cases e : ∃ k, v.testBit k = true ∧ (r a).testBit k = false
    · exact e
    · exfalso
      apply hne
      apply Nat.eq_of_testBit_eq
      intro j
      rw [or_bit]
      cases hv : v.testBit j with
      | false => simp
      | true =>
        cases hj : (r a).testBit j with
        | true => rfl
        | false => exact absurd ⟨j, hv, hj⟩ e
  refine countP_lt (fun x _ hx => ?_) ⟨(a, k), mem_allP ha (by have := bit_lt hv hk1; omega), by simp [mks, hk2], by simp [mks, seti, hk1]⟩
  simp only [Bool.not_eq_true'] at hx ⊢
  unfold mks at hx ⊢
  by_cases e : x.1 = a
  · rw [e, seti_self, or_bit] at hx
    rw [e]
    cases hq : (r a).testBit x.2 with
    | false => rfl
    | true => rw [hq] at hx; cases hx
  · rw [seti_ne e] at hx
    exact hx
/-- What stands behind an instruction, from the heights ahead of it. -/
theorem bh_step {x : Int × Int} {m t g k : Nat} (ht : tkx x = t) (hg : gvx x = g) : (bh m t g).testBit k = true ↔ ∃ h, m.testBit h = true ∧ stepOk x h ∧ toH x h = k := by
  rw [bh_bit]
  unfold stepOk toH
  rw [ht, hg]
  simp only [Bool.and_eq_true, decide_eq_true_eq]
  constructor
  · rintro ⟨h1, h2, h3⟩
    exact ⟨k - g + t, h3, ⟨by omega, by omega⟩, by omega⟩
  · rintro ⟨h, h1, ⟨h2, h3⟩, h4⟩
    refine ⟨by omega, by omega, ?_⟩
    have e : k - g + t = h := by omega
    rw [e]
    exact h1
end Go.Proofs.Ythjbjbbbbdhcmaa
