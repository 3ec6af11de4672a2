/-
  Numbers of 1, 8 and 16 bits in plain integers: the lowest bits of a number, and what each operator makes of two numbers. Nothing of the program stands here.
-/
import Derived.WalkKit
import Derived.Laws.BitsAllLaws
namespace Go.Proofs.YtgbmiphaabeodaaDoor
open Go.RowKit

/-- How many numbers there are of w bits; 1 if w may not be. -/
def pw (w : Int) : Int := if w = 1 then 2 else if w = 8 then 256 else if w = 16 then 65536 else 1
def mask (w : Int) : Int := pw w - 1
def low (w a : Int) : Int := a % pw w
def mayw (w : Int) : Prop := w = 1 ∨ w = 8 ∨ w = 16

theorem pw_cases {w : Int} (hw : mayw w) : (w = 1 ∧ pw w = 2) ∨ (w = 8 ∧ pw w = 256) ∨ (w = 16 ∧ pw w = 65536) := by
  rcases hw with rfl | rfl | rfl
  · exact .inl ⟨rfl, rfl⟩
  · exact .inr (.inl ⟨rfl, rfl⟩)
  · exact .inr (.inr ⟨rfl, rfl⟩)
theorem pw_bd {w : Int} (hw : mayw w) : 2 ≤ pw w ∧ pw w ≤ 65536 := by rcases pw_cases hw with ⟨_, h⟩ | ⟨_, h⟩ | ⟨_, h⟩ <;> omega
theorem mask_bd {w : Int} (hw : mayw w) : 1 ≤ mask w ∧ mask w ≤ 65535 := by have := pw_bd hw; unfold mask; omega
theorem mod_bd {w : Int} (hw : mayw w) (x : Int) : 0 ≤ x % pw w ∧ x % pw w ≤ 65535 ∧ x % pw w < pw w := by
  have := pw_bd hw
  have h1 := Int.emod_nonneg x (b := pw w) (by omega)
  have h2 := Int.emod_lt_of_pos x (b := pw w) (by omega)
  exact ⟨h1, by omega, h2⟩
theorem low_bd {w : Int} (hw : mayw w) (x : Int) : 0 ≤ low w x ∧ low w x ≤ 65535 ∧ low w x < pw w := mod_bd hw x

theorem nat_mask (x n : Nat) : x &&& (2 ^ n - 1) = x % 2 ^ n := Nat.and_two_pow_sub_one_eq_mod x n

theorem u16_mask {w : Int} (hw : mayw w) (x : Int) (h0 : 0 ≤ x) (h1 : x ≤ 65535) : bits .and .u16 x (mask w) = x % pw w := by
  have hm := mask_bd hw
  rw [u16_and x (mask w) h0 (by omega) (by omega) (by omega)]
  unfold mask
  rcases pw_cases hw with ⟨_, h⟩ | ⟨_, h⟩ | ⟨_, h⟩
  · have e := nat_mask x.toNat 1; rw [h]; simp at e ⊢; omega
  · have e := nat_mask x.toNat 8; rw [h]; simp at e ⊢; omega
  · have e := nat_mask x.toNat 16; rw [h]; simp at e ⊢; omega

theorem i64_mask {w : Int} (hw : mayw w) (x : Int) : bits .and .i64 x (mask w) = x % pw w := by
  have key : ∀ (n : Nat) (p : Int), n ≤ 16 → p = 2 ^ n → bits .and .i64 x (p - 1) = x % p := by
    intro n p hn hp
    show IntKind.i64.wrap ((BitVec.ofInt 64 x &&& BitVec.ofInt 64 (p - 1)).toNat : Int) = _
    have hp1 : (1 : Int) ≤ p := by rw [hp]; exact Int.pow_pos (by decide)
    have hp2 : p ≤ 65536 := by
      have : 2 ^ n ≤ 2 ^ 16 := Nat.pow_le_pow_right (by decide) hn
      have hd : ((2 ^ n : Nat) : Int) = p := by rw [hp]; push_cast; rfl
      omega
    have e1 : (BitVec.ofInt 64 (p - 1)).toNat = 2 ^ n - 1 := by
      have : (p - 1) = ((2 ^ n - 1 : Nat) : Int) := by
        have : 1 ≤ 2 ^ n := Nat.one_le_two_pow
        rw [hp]; push_cast [this]; rfl
      rw [this, BitVec.ofInt_natCast, BitVec.toNat_ofNat]
      have : 2 ^ n ≤ 2 ^ 16 := Nat.pow_le_pow_right (by decide) hn
      exact Nat.mod_eq_of_lt (by omega)
    rw [BitVec.toNat_and, e1, nat_mask, BitVec.toNat_ofInt]
    have hd : ((2 ^ n : Nat) : Int) = p := by rw [hp]; push_cast; rfl
    have hx0 : 0 ≤ x % (2 ^ 64 : Nat) := Int.emod_nonneg _ (by decide)
    have e2 : (((x % (2 ^ 64 : Nat)).toNat % 2 ^ n : Nat) : Int) = x % p := by
      rw [Int.natCast_emod, Int.toNat_of_nonneg hx0, hd]
      refine Int.emod_emod_of_dvd x ?_
      rw [← hd]
      exact_mod_cast Nat.pow_dvd_pow 2 (by omega : n ≤ 64)
    rw [e2]
    have h1 := Int.emod_nonneg x (b := p) (by omega)
    have h2 := Int.emod_lt_of_pos x (b := p) (by omega)
    exact IntWalk.i64_in _ (by omega)
  unfold mask
  rcases pw_cases hw with ⟨_, h⟩ | ⟨_, h⟩ | ⟨_, h⟩
  · exact h ▸ key 1 2 (by decide) rfl
  · exact h ▸ key 8 256 (by decide) rfl
  · exact h ▸ key 16 65536 (by decide) rfl

/-- Wrapped to 16 bits, the lowest bits are the same. -/
theorem wrap_mod {w : Int} (hw : mayw w) (x : Int) : IntKind.u16.wrap x % pw w = x % pw w := by
  rw [IntKind.wrap_u16]
  rcases pw_cases hw with ⟨_, h⟩ | ⟨_, h⟩ | ⟨_, h⟩ <;> rw [h] <;> omega
theorem wrap_bd (x : Int) : 0 ≤ IntKind.u16.wrap x ∧ IntKind.u16.wrap x ≤ 65535 := by rw [IntKind.wrap_u16]; omega
theorem u16_wrap_mask {w : Int} (hw : mayw w) (x : Int) : bits .and .u16 (IntKind.u16.wrap x) (mask w) = x % pw w := by
  rw [u16_mask hw _ (wrap_bd x).1 (wrap_bd x).2, wrap_mod hw]
theorem wrap64_mod {w : Int} (hw : mayw w) (x : Int) : wrap64 x % pw w = x % pw w := by
  unfold wrap64
  rcases pw_cases hw with ⟨_, h⟩ | ⟨_, h⟩ | ⟨_, h⟩ <;> rw [h] <;> omega

/-- All ones less a number, bit by bit. -/
theorem u16_not (x : Int) (h0 : 0 ≤ x) (h1 : x ≤ 65535) : bits .xor .u16 65535 x = 65535 - x := by
  obtain ⟨X, rfl⟩ := Int.eq_ofNat_of_zero_le h0
  show IntKind.u16.wrap ((BitVec.allOnes 16 ^^^ BitVec.ofInt 16 (X : Int)).toNat : Int) = _
  rw [BitVec.allOnes_xor, BitVec.toNat_not, ofInt_u16 X (by omega), IntKind.wrap_u16]
  omega
theorem not_mask {w : Int} (hw : mayw w) (x : Int) (h0 : 0 ≤ x) (h1 : x ≤ 65535) : bits .and .u16 (bits .xor .u16 65535 x) (mask w) = mask w - low w x := by
  rw [u16_not x h0 h1, u16_mask hw _ (by omega) (by omega)]
  unfold mask low
  rcases pw_cases hw with ⟨_, h⟩ | ⟨_, h⟩ | ⟨_, h⟩ <;> rw [h] <;> omega
theorem low_low {w : Int} (hw : mayw w) (x : Int) : low w (low w x) = low w x := by
  unfold low
  rcases pw_cases hw with ⟨_, h⟩ | ⟨_, h⟩ | ⟨_, h⟩ <;> rw [h] <;> omega
theorem low_of {w : Int} (x : Int) (h0 : 0 ≤ x) (h1 : x < pw w) : x % pw w = x := Int.emod_eq_of_lt h0 h1

theorem and_bd (a b : Int) (ha : 0 ≤ a ∧ a ≤ 65535) (hb : 0 ≤ b ∧ b ≤ 65535) : 0 ≤ bits .and .u16 a b ∧ bits .and .u16 a b ≤ 65535 := by
  rw [u16_and a b ha.1 (by omega) hb.1 (by omega)]
  have := Nat.and_lt_two_pow (n := 16) a.toNat (y := b.toNat) (by omega)
  omega
theorem or_bd (a b : Int) (ha : 0 ≤ a ∧ a ≤ 65535) (hb : 0 ≤ b ∧ b ≤ 65535) : 0 ≤ bits .or .u16 a b ∧ bits .or .u16 a b ≤ 65535 := by
  rw [u16_or a b ha.1 (by omega) hb.1 (by omega)]
  have := Nat.or_lt_two_pow (n := 16) (x := a.toNat) (y := b.toNat) (by omega) (by omega)
  omega
theorem xor_bd (a b : Int) (ha : 0 ≤ a ∧ a ≤ 65535) (hb : 0 ≤ b ∧ b ≤ 65535) : 0 ≤ bits .xor .u16 a b ∧ bits .xor .u16 a b ≤ 65535 := by
  rw [u16_xor a b ha.1 (by omega) hb.1 (by omega)]
  have := Nat.xor_lt_two_pow (n := 16) (x := a.toNat) (y := b.toNat) (by omega) (by omega)
  omega
/-- pw w is a power of two. -/
theorem pw_pow {w : Int} (hw : mayw w) : ∃ n : Nat, n ≤ 16 ∧ w = n ∧ pw w = ((2 ^ n : Nat) : Int) := by
  rcases hw with rfl | rfl | rfl
  · exact ⟨1, by decide, rfl, rfl⟩
  · exact ⟨8, by decide, rfl, rfl⟩
  · exact ⟨16, by decide, rfl, rfl⟩
theorem low_nat {w : Int} {n : Nat} (h : pw w = ((2 ^ n : Nat) : Int)) (A : Nat) : (low w (A : Int)).toNat = A % 2 ^ n := by
  unfold low; rw [h]; omega
theorem bits_low {w : Int} (hw : mayw w) (a b : Int) (ha : 0 ≤ a ∧ a ≤ 65535) (hb : 0 ≤ b ∧ b ≤ 65535) :
    bits .and .u16 (low w a) (low w b) = bits .and .u16 a b % pw w ∧ bits .or .u16 (low w a) (low w b) = bits .or .u16 a b % pw w ∧ bits .xor .u16 (low w a) (low w b) = bits .xor .u16 a b % pw w := by
  have la := low_bd hw a
  have lb := low_bd hw b
  rw [u16_and _ _ la.1 (by omega) lb.1 (by omega), u16_or _ _ la.1 (by omega) lb.1 (by omega), u16_xor _ _ la.1 (by omega) lb.1 (by omega),
    u16_and _ _ ha.1 (by omega) hb.1 (by omega), u16_or _ _ ha.1 (by omega) hb.1 (by omega), u16_xor _ _ ha.1 (by omega) hb.1 (by omega)]
  obtain ⟨n, _, _, hp⟩ := pw_pow hw
  obtain ⟨A, rfl⟩ := Int.eq_ofNat_of_zero_le ha.1
  obtain ⟨B, rfl⟩ := Int.eq_ofNat_of_zero_le hb.1
  rw [low_nat hp A, low_nat hp B, hp]
  simp only [Int.toNat_natCast]
  refine ⟨?_, ?_, ?_⟩
  · rw [← Nat.and_mod_two_pow]; rfl
  · rw [← Nat.or_mod_two_pow]; rfl
  · rw [← Nat.xor_mod_two_pow]; rfl

/-- A shift to the left by the width or more has no bit left within the width. -/
theorem shl_far {w : Int} (hw : mayw w) (A : Int) (k : Nat) (h : w ≤ k) : A * 2 ^ k % pw w = 0 := by
  obtain ⟨n, _, hn, hp⟩ := pw_pow hw
  have e : k = n + (k - n) := by omega
  rw [hp, e, Int.pow_add]
  have : (A * (2 ^ n * 2 ^ (k - n)) : Int) = ((2 ^ n : Nat) : Int) * (A * 2 ^ (k - n)) := by push_cast; rw [Int.mul_left_comm]
  rw [this]
  exact Int.mul_emod_right _ _
theorem shl_min {w : Int} (hw : mayw w) (A : Int) (k : Nat) : A * 2 ^ min k 16 % pw w = A * 2 ^ k % pw w := by
  by_cases h : k ≤ 16
  · rw [Nat.min_eq_left h]
  · rw [shl_far hw A k (by rcases hw with rfl | rfl | rfl <;> omega), shl_far hw A _ (by rcases hw with rfl | rfl | rfl <;> omega)]
theorem shr_far {w : Int} (hw : mayw w) (A : Int) (k : Nat) (h : w ≤ k) (h0 : 0 ≤ A) (h1 : A < pw w) : A / 2 ^ k = 0 := by
  obtain ⟨n, _, hn, hp⟩ := pw_pow hw
  refine Int.ediv_eq_zero_of_lt h0 ?_
  have : 2 ^ n ≤ 2 ^ k := Nat.pow_le_pow_right (by decide) (by omega)
  have h2 : ((2 : Int) ^ k) = ((2 ^ k : Nat) : Int) := by push_cast; rfl
  rw [h2]; omega
theorem shr_min {w : Int} (hw : mayw w) (A : Int) (k : Nat) (h0 : 0 ≤ A) (h1 : A < pw w) : A / 2 ^ min k 16 = A / 2 ^ k := by
  by_cases h : k ≤ 16
  · rw [Nat.min_eq_left h]
  · rw [shr_far hw A k (by rcases hw with rfl | rfl | rfl <;> omega) h0 h1, shr_far hw A _ (by rcases hw with rfl | rfl | rfl <;> omega) h0 h1]
theorem shr_bd (A : Int) (k : Nat) (h0 : 0 ≤ A) : 0 ≤ A / 2 ^ k ∧ A / 2 ^ k ≤ A :=
  ⟨Int.ediv_nonneg h0 (Int.le_of_lt (Int.pow_pos (by decide))), Int.ediv_le_self _ h0⟩

/-- A truth as a number. -/
def bitV (b : Bool) : Int := if b then 1 else 0
/-- What the operator makes of two numbers of w bits. -/
def doM (op w A B : Int) : Int :=
  if op = 3 then mask w - A else if op = 4 then bits .and .u16 A B else if op = 5 then bits .or .u16 A B else if op = 6 then bits .xor .u16 A B
  else if op = 7 then (A + B) % pw w else if op = 8 then (A - B) % pw w else if op = 9 then (A * B) % pw w
  else if op = 10 then (if B = 0 then mask w else A / B) else if op = 11 then (if B = 0 then A else A % B)
  else if op = 12 then A * 2 ^ B.toNat % pw w else if op = 13 then A / 2 ^ B.toNat
  else if op = 14 then bitV (A == B) else bitV (decide (A < B))
def outV (op w : Int) : Int := if op = 14 then 1 else if op = 15 then 1 else w
end Go.Proofs.YtgbmiphaabeodaaDoor
