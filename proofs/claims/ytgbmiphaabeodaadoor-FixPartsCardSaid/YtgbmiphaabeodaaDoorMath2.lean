/-
  Laws of numbers of 1, 8 and 16 bits in plain integers: what is larger with a sign, shifts as products and quotients, what is cut, and the laws of sums, products, quotients and rests. Nothing of the program stands here.
-/
import Derived.Test.YtgbmiphaabeodaaDoorMath
namespace Go.Proofs.YtgbmiphaabeodaaDoor
open Go.RowKit

/-- A number of w bits with a sign. -/
def sgn (w a : Int) : Int := if low w a * 2 < pw w then low w a else low w a - pw w

theorem xor_flip (x k : Nat) (h : x < 2 ^ (k + 1)) : x ^^^ 2 ^ k = if x < 2 ^ k then x + 2 ^ k else x - 2 ^ k := by
  have hp : 0 < 2 ^ k := Nat.two_pow_pos k
  have h2 : 2 ^ (k + 1) = 2 * 2 ^ k := by rw [Nat.pow_succ, Nat.mul_comm]
  have hd := Nat.xor_div_two_pow (a := x) (b := 2 ^ k) (n := k)
  have hm := Nat.xor_mod_two_pow (a := x) (b := 2 ^ k) (n := k)
  rw [Nat.div_self hp] at hd
  rw [Nat.mod_self, Nat.xor_zero] at hm
  have e := Nat.div_add_mod (x ^^^ 2 ^ k) (2 ^ k)
  have ex := Nat.div_add_mod x (2 ^ k)
  rw [hm, hd] at e
  split
  · rename_i hlt
    rw [Nat.div_eq_of_lt hlt] at e ex
    simp at e ex
    omega
  · rename_i hge
    have hq : x / 2 ^ k = 1 := by
      have h1 : x / 2 ^ k < 2 := (Nat.div_lt_iff_lt_mul hp).2 (by omega)
      have h3 : 0 < x / 2 ^ k := Nat.div_pos (by omega) hp
      omega
    rw [hq] at e ex
    simp at e ex
    omega

theorem xor_sgn {w : Int} {n : Nat} (hw : mayw w) (hn : n < 16) (hp : pw w = 2 * ((2 ^ n : Nat) : Int)) (a : Int) (h0 : 0 ≤ a) (h1 : a ≤ 65535) :
    low w (bits .xor .u16 a ((2 ^ n : Nat) : Int)) = sgn w a + ((2 ^ n : Nat) : Int) := by
  have hle : 2 ^ n ≤ 2 ^ 15 := Nat.pow_le_pow_right (by decide) (by omega)
  have hpos : 0 < 2 ^ n := Nat.two_pow_pos n
  have hb := bits_low hw a ((2 ^ n : Nat) : Int) ⟨h0, h1⟩ ⟨by omega, by omega⟩
  have la := low_bd hw a
  have hh : low w ((2 ^ n : Nat) : Int) = ((2 ^ n : Nat) : Int) := by unfold low; rw [hp]; exact Int.emod_eq_of_lt (by omega) (by omega)
  rw [hh] at hb
  have e : low w (bits .xor .u16 a ((2 ^ n : Nat) : Int)) = bits .xor .u16 (low w a) ((2 ^ n : Nat) : Int) := by rw [hb.2.2]; rfl
  rw [e, u16_xor _ _ la.1 (by omega) (by omega) (by omega), Int.toNat_natCast, xor_flip _ n (by rw [Nat.pow_succ]; omega)]
  unfold sgn
  split <;> split <;> omega

theorem sgn_lt_one (a b : Int) (ha0 : 0 ≤ a) (ha1 : a ≤ 65535) (hb0 : 0 ≤ b) (hb1 : b ≤ 65535) :
    (low 1 (bits .xor .u16 a 1) < low 1 (bits .xor .u16 b 1)) = (sgn 1 a < sgn 1 b) := by
  have e1 := xor_sgn (w := 1) (n := 0) (.inl rfl) (by decide) rfl a ha0 ha1
  have e2 := xor_sgn (w := 1) (n := 0) (.inl rfl) (by decide) rfl b hb0 hb1
  simp at e1 e2 ⊢
  omega
theorem sgn_lt_eight (a b : Int) (ha0 : 0 ≤ a) (ha1 : a ≤ 65535) (hb0 : 0 ≤ b) (hb1 : b ≤ 65535) :
    (low 8 (bits .xor .u16 a 128) < low 8 (bits .xor .u16 b 128)) = (sgn 8 a < sgn 8 b) := by
  have e1 := xor_sgn (w := 8) (n := 7) (.inr (.inl rfl)) (by decide) rfl a ha0 ha1
  have e2 := xor_sgn (w := 8) (n := 7) (.inr (.inl rfl)) (by decide) rfl b hb0 hb1
  simp at e1 e2 ⊢
  omega
theorem sgn_lt_sixteen (a b : Int) (ha0 : 0 ≤ a) (ha1 : a ≤ 65535) (hb0 : 0 ≤ b) (hb1 : b ≤ 65535) :
    (low 16 (bits .xor .u16 a 32768) < low 16 (bits .xor .u16 b 32768)) = (sgn 16 a < sgn 16 b) := by
  have e1 := xor_sgn (w := 16) (n := 15) (.inr (.inr rfl)) (by decide) rfl a ha0 ha1
  have e2 := xor_sgn (w := 16) (n := 15) (.inr (.inr rfl)) (by decide) rfl b hb0 hb1
  simp at e1 e2 ⊢
  omega
theorem bit_one (b : Bool) : (bitV b == 1) = b := by cases b <;> rfl

/-! ### What Do answers lies within the width. -/
theorem doM_bd {w : Int} (hw : mayw w) (op a b : Int) : 0 ≤ doM op w (low w a) (low w b) ∧ doM op w (low w a) (low w b) < pw w := by
  have la := low_bd hw a
  have lb := low_bd hw b
  have hp := pw_bd hw
  have bl := fun (x : Bool) => show 0 ≤ bitV x ∧ bitV x < pw w by cases x <;> simp [bitV] <;> omega
  have hmm : ∀ x : Int, x % pw w % pw w = x % pw w := fun x => Int.emod_emod_of_dvd x (Int.dvd_refl _)
  have key : ∀ x : Int, 0 ≤ x % pw w ∧ x % pw w < pw w := fun x => ⟨(mod_bd hw x).1, (mod_bd hw x).2.2⟩
  have hb := bits_low hw (low w a) (low w b) ⟨la.1, la.2.1⟩ ⟨lb.1, lb.2.1⟩
  rw [low_low hw, low_low hw] at hb
  unfold doM
  by_cases h3 : op = 3
  · rw [if_pos h3]; unfold mask; omega
  rw [if_neg h3]
  by_cases h4 : op = 4
  · rw [if_pos h4, hb.1]; exact key _
  rw [if_neg h4]
  by_cases h5 : op = 5
  · rw [if_pos h5, hb.2.1]; exact key _
  rw [if_neg h5]
  by_cases h6 : op = 6
  · rw [if_pos h6, hb.2.2]; exact key _
  rw [if_neg h6]
  by_cases h7 : op = 7
  · rw [if_pos h7]; exact key _
  rw [if_neg h7]
  by_cases h8 : op = 8
  · rw [if_pos h8]; exact key _
  rw [if_neg h8]
  by_cases h9 : op = 9
  · rw [if_pos h9]; exact key _
  rw [if_neg h9]
  by_cases h10 : op = 10
  · rw [if_pos h10]
    split
    · unfold mask; omega
    · have := IntWalk.tdiv_le (low w a) (low w b) la.1 (by omega); omega
  rw [if_neg h10]
  by_cases h11 : op = 11
  · rw [if_pos h11]
    split
    · omega
    · have q0 := Int.emod_nonneg (low w a) (b := low w b) (by omega)
      have q1 := Int.emod_lt_of_pos (low w a) (b := low w b) (by omega)
      omega
  rw [if_neg h11]
  by_cases h12 : op = 12
  · rw [if_pos h12]; exact key _
  rw [if_neg h12]
  by_cases h13 : op = 13
  · rw [if_pos h13]; have := shr_bd (low w a) (low w b).toNat la.1; omega
  rw [if_neg h13]
  by_cases h14 : op = 14
  · rw [if_pos h14]; exact bl _
  rw [if_neg h14]; exact bl _

/-! ### A shift as a product and as a quotient. -/
theorem pow_low {w : Int} (hw : mayw w) (k : Nat) (h : (k : Int) < w) : low w (2 ^ k) = 2 ^ k ∧ (1 : Int) ≤ 2 ^ k ∧ (2 : Int) ^ k ≤ 65535 := by
  obtain ⟨n, hn, e, hp⟩ := pw_pow hw
  have h1 : 2 ^ (k + 1) ≤ 2 ^ n := Nat.pow_le_pow_right (by decide) (by omega)
  have h2 : 2 ^ (k + 1) = 2 * 2 ^ k := by rw [Nat.pow_succ, Nat.mul_comm]
  have h3 : 2 ^ n ≤ 2 ^ 16 := Nat.pow_le_pow_right (by decide) hn
  have h4 : 0 < 2 ^ k := Nat.two_pow_pos k
  have e2 : ((2 : Int) ^ k) = ((2 ^ k : Nat) : Int) := by push_cast; rfl
  rw [e2]
  refine ⟨?_, by omega, by omega⟩
  unfold low
  rw [hp]
  exact Int.emod_eq_of_lt (by omega) (by omega)

/-! ### What is cut is what is reckoned at fewer bits. -/
theorem cut_low (n w : Int) (hn : n = 1 ∨ n = 8) (x : Int) (hw : w = 16) : low n (low w x) = low n x := by
  subst hw
  unfold low
  rcases hn with rfl | rfl <;> simp [pw] <;> omega
theorem mod_dvd (n : Int) (hn : n = 1 ∨ n = 8) (x : Int) : x % pw 16 % pw n = x % pw n := by
  rcases hn with rfl | rfl <;> simp [pw] <;> omega
theorem cut_op (n op a b : Int) (hn : n = 1 ∨ n = 8) (h : op = 3 ∨ op = 4 ∨ op = 5 ∨ op = 6 ∨ op = 7 ∨ op = 8 ∨ op = 9) (ha0 : 0 ≤ a) (ha1 : a ≤ 65535) (hb0 : 0 ≤ b) (hb1 : b ≤ 65535) :
    low n (doM op 16 (low 16 a) (low 16 b)) = doM op n (low n a) (low n b) := by
  have m16 : mayw 16 := .inr (.inr rfl)
  have mn : mayw n := by rcases hn with rfl | rfl; exact .inl rfl; exact .inr (.inl rfl)
  have ea : low 16 a = a := by unfold low; simp [pw]; omega
  have eb : low 16 b = b := by unfold low; simp [pw]; omega
  have hb := bits_low mn a b ⟨ha0, ha1⟩ ⟨hb0, hb1⟩
  rw [ea, eb]
  rcases h with rfl | rfl | rfl | rfl | rfl | rfl | rfl
  · show low n (mask 16 - a) = mask n - low n a
    unfold low mask
    rcases hn with rfl | rfl <;> simp [pw] <;> omega
  · exact hb.1.symm
  · exact hb.2.1.symm
  · exact hb.2.2.symm
  · show (a + b) % pw 16 % pw n = (low n a + low n b) % pw n
    rw [mod_dvd n hn]; unfold low; rw [← Int.add_emod]
  · show (a - b) % pw 16 % pw n = (low n a - low n b) % pw n
    rw [mod_dvd n hn]; unfold low; rw [← Int.sub_emod]
  · show (a * b) % pw 16 % pw n = (low n a * low n b) % pw n
    rw [mod_dvd n hn]; unfold low; rw [← Int.mul_emod]

/-! ### Sums and products do not hang on the order; a difference and what was taken is what there was; quotient and rest make the number again. -/
theorem law_add (w A B : Int) : doM 7 w A B = doM 7 w B A := by show (A + B) % pw w = (B + A) % pw w; rw [Int.add_comm]
theorem law_mul (w A B : Int) : doM 9 w A B = doM 9 w B A := by show (A * B) % pw w = (B * A) % pw w; rw [Int.mul_comm]
theorem law_sub {w : Int} (hw : mayw w) (a b : Int) : doM 7 w (low w (doM 8 w (low w a) (low w b))) (low w b) = low w a := by
  have la := low_bd hw a
  show (low w ((low w a - low w b) % pw w) + low w b) % pw w = low w a
  generalize low w b = B
  generalize low w a = A at *
  unfold low
  rcases pw_cases hw with ⟨_, h⟩ | ⟨_, h⟩ | ⟨_, h⟩ <;> rw [h] at la ⊢ <;> omega
theorem low_small {w x : Int} (h0 : 0 ≤ x) (h1 : x < pw w) : low w x = x := Int.emod_eq_of_lt h0 h1
theorem law_div {w : Int} (hw : mayw w) (a b : Int) (hb : ¬ low w b = 0) :
    doM 7 w (low w (doM 9 w (low w (doM 10 w (low w a) (low w b))) (low w b))) (low w (doM 11 w (low w a) (low w b))) = low w a ∧ doM 11 w (low w a) (low w b) < low w b := by
  have la := low_bd hw a
  have lb := low_bd hw b
  have e10 : doM 10 w (low w a) (low w b) = low w a / low w b := by simp [doM, hb]
  have e11 : doM 11 w (low w a) (low w b) = low w a % low w b := by simp [doM, hb]
  rw [e10, e11]
  have hq := IntWalk.tdiv_le (low w a) (low w b) la.1 (by omega)
  have q0 := Int.emod_nonneg (low w a) (b := low w b) (by omega)
  have q1 := Int.emod_lt_of_pos (low w a) (b := low w b) (by omega)
  have he := Int.mul_ediv_add_emod (low w a) (low w b)
  rw [low_small (x := low w a / low w b) hq.1 (by omega), low_small (x := low w a % low w b) q0 (by omega)]
  refine ⟨?_, q1⟩
  show (low w (low w a / low w b * low w b % pw w) + low w a % low w b) % pw w = low w a
  rw [Int.mul_comm] at he
  generalize low w a / low w b * low w b = Q at *
  generalize low w a % low w b = R at *
  generalize low w a = A at *
  unfold low
  rcases pw_cases hw with ⟨_, h⟩ | ⟨_, h⟩ | ⟨_, h⟩ <;> rw [h] at la ⊢ <;> omega
theorem law_one (w A B : Int) : IntKind.u16.wrap (IntKind.u16.wrap (doM 15 w A B + doM 15 w B A) + doM 14 w A B) = 1 := by
  show IntKind.u16.wrap (IntKind.u16.wrap (bitV (decide (A < B)) + bitV (decide (B < A))) + bitV (A == B)) = 1
  rcases Int.lt_trichotomy A B with h | h | h
  · rw [decide_eq_true h, decide_eq_false (show ¬ B < A by omega), show (A == B) = false by simp; omega]; rfl
  · rw [decide_eq_false (show ¬ A < B by omega), decide_eq_false (show ¬ B < A by omega), show (A == B) = true by simpa using h]; rfl
  · rw [decide_eq_true h, decide_eq_false (show ¬ A < B by omega), show (A == B) = false by simp; omega]; rfl
theorem law_xor {w : Int} (hw : mayw w) (a b : Int) : doM 6 w (low w (doM 6 w (low w a) (low w b))) (low w b) = low w a := by
  have la := low_bd hw a
  have lb := low_bd hw b
  have h1 := doM_bd hw 6 a b
  have p := pw_bd hw
  rw [low_small h1.1 h1.2]
  show bits .xor .u16 (bits .xor .u16 (low w a) (low w b)) (low w b) = low w a
  have e : doM 6 w (low w a) (low w b) = bits .xor .u16 (low w a) (low w b) := rfl
  rw [e] at h1
  rw [u16_xor _ _ h1.1 (by omega) lb.1 (by omega), u16_xor _ _ la.1 (by omega) lb.1 (by omega), Int.toNat_natCast, Nat.xor_assoc, Nat.xor_self, Nat.xor_zero]
  exact Int.toNat_of_nonneg la.1
theorem law_not {w : Int} (hw : mayw w) (a y z : Int) : doM 3 w (low w (doM 3 w (low w a) y)) z = low w a := by
  have la := low_bd hw a
  show mask w - low w (mask w - low w a) = low w a
  rw [low_small (by unfold mask; omega) (by unfold mask; omega)]
  omega
theorem beq_of {x y : Int} (h : x = y) : (x == y) = true := by simpa using h
end Go.Proofs.YtgbmiphaabeodaaDoor
