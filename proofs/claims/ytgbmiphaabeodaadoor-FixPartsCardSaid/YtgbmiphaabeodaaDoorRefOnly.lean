/-
  What Of and Signed of package wide, the document's own answers for chapter 1, and the first sentence of each law give back: contracts for the seat's laws.
-/
import Derived.Test.YtgbmiphaabeodaaDoorWide
namespace Go.Proofs.YtgbmiphaabeodaaDoor
open Go.ChangeShapes Go.WideShapes Go.ChangeAt Go.RowKit
set_option linter.unusedVariables false

theorem and_zero (x : Int) (h0 : 0 ≤ x) (h1 : x ≤ 65535) : bits .and .u16 x 0 = 0 := by
  rw [u16_and x 0 h0 (by omega) (by omega) (by omega)]; simp
theorem rmay_yes (w : Int) (W : World) (h : mayw w) :
    Calls Tryd.prog 20 #[.int .i64 w] W fun e W' => e = .returned (.bool true) ∧ W = W' := by
  rcases h with rfl | rfl | rfl
  all_goals
    go_enter Tryd.func20, Tryd.ntmps20
    go_wp2
    go_ret
    exact ⟨rfl, rfl⟩
theorem rmay_no (w : Int) (W : World) (h : ¬ mayw w) :
    Calls Tryd.prog 20 #[.int .i64 w] W fun e W' => e = .returned (.bool false) ∧ W = W' := by
  obtain ⟨h1, h8, h16⟩ := not_may h
  clear h
  go_enter Tryd.func20, Tryd.ntmps20
  go_wp2
  go_ret
  exact ⟨rfl, rfl⟩
theorem rmask_yes (w : Int) (W : World) (h : mayw w) :
    Calls Tryd.prog 50 #[.int .i64 w] W fun e W' => e = .returned (.int .u16 (mask w)) ∧ W = W' := by
  rcases h with rfl | rfl | rfl
  all_goals
    go_enter Tryd.func50, Tryd.ntmps50
    go_wp2
    go_ret
    exact ⟨rfl, rfl⟩
theorem rmask_no (w : Int) (W : World) (h : ¬ mayw w) :
    Calls Tryd.prog 50 #[.int .i64 w] W fun e W' => e = .returned (.int .u16 0) ∧ W = W' := by
  go_enter Tryd.func50, Tryd.ntmps50
  go_wp2_with (go_at_call 20; refine (rmay_no w _ h).mono ?_; rintro e w' ⟨rfl, rfl⟩)
  go_ret
  exact ⟨rfl, rfl⟩
theorem rbit_any (b : Bool) (W : World) :
    Calls Tryd.prog 62 #[.bool b] W fun e W' => e = .returned (.int .u16 (bitV b)) ∧ W = W' := by
  cases b
  all_goals
    go_enter Tryd.func62, Tryd.ntmps62
    go_wp2
    go_ret
    exact ⟨rfl, rfl⟩
theorem rdo_3 (w a b : Int) (W : World) (hw : mayw w) (ha0 : 0 ≤ a) (ha1 : a ≤ 65535) (hb0 : 0 ≤ b) (hb1 : b ≤ 65535) :
    Calls Tryd.prog 51 #[.int .i64 3, .int .i64 w, .int .u16 a, .int .u16 b] W fun e W' => e = .returned (.tuple #[.int .u16 (mask w - low w a), .int .i64 0]) ∧ W = W' := by
  have hA : bits .and .u16 a (mask w) = low w a := u16_mask hw a ha0 ha1
  have hB : bits .and .u16 b (mask w) = low w b := u16_mask hw b hb0 hb1
  obtain ⟨bA0, bA1, bA2⟩ := low_bd hw a
  obtain ⟨bB0, bB1, bB2⟩ := low_bd hw b
  obtain ⟨hm0, hm1⟩ := mask_bd hw
  have hN : bits .and .u16 (bits .xor .u16 IntKind.u16.max a) (mask w) = mask w - low w a := not_mask hw a ha0 ha1
  go_enter Tryd.func51, Tryd.ntmps51
  go_wp2_with (first | (go_at_call 20; refine (rmay_yes w _ hw).mono ?_; rintro e w' ⟨rfl, rfl⟩) | (go_at_call 50; refine (rmask_yes w _ hw).mono ?_; rintro e w' ⟨rfl, rfl⟩) | (go_at_call 62; refine (rbit_any _ _).mono ?_; rintro e w' ⟨rfl, rfl⟩))
  go_ret2
  exact ⟨rfl, rfl⟩
theorem rdo_4 (w a b : Int) (W : World) (hw : mayw w) (ha0 : 0 ≤ a) (ha1 : a ≤ 65535) (hb0 : 0 ≤ b) (hb1 : b ≤ 65535) :
    Calls Tryd.prog 51 #[.int .i64 4, .int .i64 w, .int .u16 a, .int .u16 b] W fun e W' => e = .returned (.tuple #[.int .u16 (bits .and .u16 (low w a) (low w b)), .int .i64 0]) ∧ W = W' := by
  have hA : bits .and .u16 a (mask w) = low w a := u16_mask hw a ha0 ha1
  have hB : bits .and .u16 b (mask w) = low w b := u16_mask hw b hb0 hb1
  obtain ⟨bA0, bA1, bA2⟩ := low_bd hw a
  obtain ⟨bB0, bB1, bB2⟩ := low_bd hw b
  obtain ⟨hm0, hm1⟩ := mask_bd hw
  have hX : bits .and .u16 (bits .and .u16 a b) (mask w) = bits .and .u16 (low w a) (low w b) := by
    have h := and_bd a b ⟨ha0, ha1⟩ ⟨hb0, hb1⟩
    rw [u16_mask hw _ h.1 h.2, (bits_low hw a b ⟨ha0, ha1⟩ ⟨hb0, hb1⟩).1]
  go_enter Tryd.func51, Tryd.ntmps51
  go_wp2_with (first | (go_at_call 20; refine (rmay_yes w _ hw).mono ?_; rintro e w' ⟨rfl, rfl⟩) | (go_at_call 50; refine (rmask_yes w _ hw).mono ?_; rintro e w' ⟨rfl, rfl⟩) | (go_at_call 62; refine (rbit_any _ _).mono ?_; rintro e w' ⟨rfl, rfl⟩))
  go_ret2
  exact ⟨rfl, rfl⟩
theorem rdo_5 (w a b : Int) (W : World) (hw : mayw w) (ha0 : 0 ≤ a) (ha1 : a ≤ 65535) (hb0 : 0 ≤ b) (hb1 : b ≤ 65535) :
    Calls Tryd.prog 51 #[.int .i64 5, .int .i64 w, .int .u16 a, .int .u16 b] W fun e W' => e = .returned (.tuple #[.int .u16 (bits .or .u16 (low w a) (low w b)), .int .i64 0]) ∧ W = W' := by
  have hA : bits .and .u16 a (mask w) = low w a := u16_mask hw a ha0 ha1
  have hB : bits .and .u16 b (mask w) = low w b := u16_mask hw b hb0 hb1
  obtain ⟨bA0, bA1, bA2⟩ := low_bd hw a
  obtain ⟨bB0, bB1, bB2⟩ := low_bd hw b
  obtain ⟨hm0, hm1⟩ := mask_bd hw
  have hX : bits .and .u16 (bits .or .u16 a b) (mask w) = bits .or .u16 (low w a) (low w b) := by
    have h := or_bd a b ⟨ha0, ha1⟩ ⟨hb0, hb1⟩
    rw [u16_mask hw _ h.1 h.2, (bits_low hw a b ⟨ha0, ha1⟩ ⟨hb0, hb1⟩).2.1]
  go_enter Tryd.func51, Tryd.ntmps51
  go_wp2_with (first | (go_at_call 20; refine (rmay_yes w _ hw).mono ?_; rintro e w' ⟨rfl, rfl⟩) | (go_at_call 50; refine (rmask_yes w _ hw).mono ?_; rintro e w' ⟨rfl, rfl⟩) | (go_at_call 62; refine (rbit_any _ _).mono ?_; rintro e w' ⟨rfl, rfl⟩))
  go_ret2
  exact ⟨rfl, rfl⟩
theorem rdo_6 (w a b : Int) (W : World) (hw : mayw w) (ha0 : 0 ≤ a) (ha1 : a ≤ 65535) (hb0 : 0 ≤ b) (hb1 : b ≤ 65535) :
    Calls Tryd.prog 51 #[.int .i64 6, .int .i64 w, .int .u16 a, .int .u16 b] W fun e W' => e = .returned (.tuple #[.int .u16 (bits .xor .u16 (low w a) (low w b)), .int .i64 0]) ∧ W = W' := by
  have hA : bits .and .u16 a (mask w) = low w a := u16_mask hw a ha0 ha1
  have hB : bits .and .u16 b (mask w) = low w b := u16_mask hw b hb0 hb1
  obtain ⟨bA0, bA1, bA2⟩ := low_bd hw a
  obtain ⟨bB0, bB1, bB2⟩ := low_bd hw b
  obtain ⟨hm0, hm1⟩ := mask_bd hw
  have hX : bits .and .u16 (bits .xor .u16 a b) (mask w) = bits .xor .u16 (low w a) (low w b) := by
    have h := xor_bd a b ⟨ha0, ha1⟩ ⟨hb0, hb1⟩
    rw [u16_mask hw _ h.1 h.2, (bits_low hw a b ⟨ha0, ha1⟩ ⟨hb0, hb1⟩).2.2]
  go_enter Tryd.func51, Tryd.ntmps51
  go_wp2_with (first | (go_at_call 20; refine (rmay_yes w _ hw).mono ?_; rintro e w' ⟨rfl, rfl⟩) | (go_at_call 50; refine (rmask_yes w _ hw).mono ?_; rintro e w' ⟨rfl, rfl⟩) | (go_at_call 62; refine (rbit_any _ _).mono ?_; rintro e w' ⟨rfl, rfl⟩))
  go_ret2
  exact ⟨rfl, rfl⟩
theorem rdo_7 (w a b : Int) (W : World) (hw : mayw w) (ha0 : 0 ≤ a) (ha1 : a ≤ 65535) (hb0 : 0 ≤ b) (hb1 : b ≤ 65535) :
    Calls Tryd.prog 51 #[.int .i64 7, .int .i64 w, .int .u16 a, .int .u16 b] W fun e W' => e = .returned (.tuple #[.int .u16 ((low w a + low w b) % pw w), .int .i64 0]) ∧ W = W' := by
  have hA : bits .and .u16 a (mask w) = low w a := u16_mask hw a ha0 ha1
  have hB : bits .and .u16 b (mask w) = low w b := u16_mask hw b hb0 hb1
  obtain ⟨bA0, bA1, bA2⟩ := low_bd hw a
  obtain ⟨bB0, bB1, bB2⟩ := low_bd hw b
  obtain ⟨hm0, hm1⟩ := mask_bd hw
  have hR := i64_mask hw (low w a + low w b)
  obtain ⟨q0, q1, _⟩ := mod_bd hw (low w a + low w b)
  go_enter Tryd.func51, Tryd.ntmps51
  go_wp2_with (first | (go_at_call 20; refine (rmay_yes w _ hw).mono ?_; rintro e w' ⟨rfl, rfl⟩) | (go_at_call 50; refine (rmask_yes w _ hw).mono ?_; rintro e w' ⟨rfl, rfl⟩) | (go_at_call 62; refine (rbit_any _ _).mono ?_; rintro e w' ⟨rfl, rfl⟩))
  go_ret2
  exact ⟨rfl, rfl⟩
theorem rdo_8 (w a b : Int) (W : World) (hw : mayw w) (ha0 : 0 ≤ a) (ha1 : a ≤ 65535) (hb0 : 0 ≤ b) (hb1 : b ≤ 65535) :
    Calls Tryd.prog 51 #[.int .i64 8, .int .i64 w, .int .u16 a, .int .u16 b] W fun e W' => e = .returned (.tuple #[.int .u16 ((low w a - low w b) % pw w), .int .i64 0]) ∧ W = W' := by
  have hA : bits .and .u16 a (mask w) = low w a := u16_mask hw a ha0 ha1
  have hB : bits .and .u16 b (mask w) = low w b := u16_mask hw b hb0 hb1
  obtain ⟨bA0, bA1, bA2⟩ := low_bd hw a
  obtain ⟨bB0, bB1, bB2⟩ := low_bd hw b
  obtain ⟨hm0, hm1⟩ := mask_bd hw
  have hR := i64_mask hw (low w a - low w b)
  obtain ⟨q0, q1, _⟩ := mod_bd hw (low w a - low w b)
  go_enter Tryd.func51, Tryd.ntmps51
  go_wp2_with (first | (go_at_call 20; refine (rmay_yes w _ hw).mono ?_; rintro e w' ⟨rfl, rfl⟩) | (go_at_call 50; refine (rmask_yes w _ hw).mono ?_; rintro e w' ⟨rfl, rfl⟩) | (go_at_call 62; refine (rbit_any _ _).mono ?_; rintro e w' ⟨rfl, rfl⟩))
  go_ret2
  exact ⟨rfl, rfl⟩
theorem rdo_9 (w a b : Int) (W : World) (hw : mayw w) (ha0 : 0 ≤ a) (ha1 : a ≤ 65535) (hb0 : 0 ≤ b) (hb1 : b ≤ 65535) :
    Calls Tryd.prog 51 #[.int .i64 9, .int .i64 w, .int .u16 a, .int .u16 b] W fun e W' => e = .returned (.tuple #[.int .u16 ((low w a * low w b) % pw w), .int .i64 0]) ∧ W = W' := by
  have hA : bits .and .u16 a (mask w) = low w a := u16_mask hw a ha0 ha1
  have hB : bits .and .u16 b (mask w) = low w b := u16_mask hw b hb0 hb1
  obtain ⟨bA0, bA1, bA2⟩ := low_bd hw a
  obtain ⟨bB0, bB1, bB2⟩ := low_bd hw b
  obtain ⟨hm0, hm1⟩ := mask_bd hw
  have hR : bits .and .i64 (wrap64 (low w a * low w b)) (mask w) = (low w a * low w b) % pw w := by rw [i64_mask hw, wrap64_mod hw]
  obtain ⟨q0, q1, _⟩ := mod_bd hw (low w a * low w b)
  go_enter Tryd.func51, Tryd.ntmps51
  go_wp2_with (first | (go_at_call 20; refine (rmay_yes w _ hw).mono ?_; rintro e w' ⟨rfl, rfl⟩) | (go_at_call 50; refine (rmask_yes w _ hw).mono ?_; rintro e w' ⟨rfl, rfl⟩) | (go_at_call 62; refine (rbit_any _ _).mono ?_; rintro e w' ⟨rfl, rfl⟩))
  go_ret2
  exact ⟨rfl, rfl⟩
theorem rdo_10z (w a b : Int) (W : World) (hw : mayw w) (ha0 : 0 ≤ a) (ha1 : a ≤ 65535) (hb0 : 0 ≤ b) (hb1 : b ≤ 65535) (hc : low w b = 0) :
    Calls Tryd.prog 51 #[.int .i64 10, .int .i64 w, .int .u16 a, .int .u16 b] W fun e W' => e = .returned (.tuple #[.int .u16 (mask w), .int .i64 0]) ∧ W = W' := by
  have hA : bits .and .u16 a (mask w) = low w a := u16_mask hw a ha0 ha1
  have hB : bits .and .u16 b (mask w) = low w b := u16_mask hw b hb0 hb1
  obtain ⟨bA0, bA1, bA2⟩ := low_bd hw a
  obtain ⟨bB0, bB1, bB2⟩ := low_bd hw b
  obtain ⟨hm0, hm1⟩ := mask_bd hw
  clear bB0 bB1 bB2
  go_enter Tryd.func51, Tryd.ntmps51
  go_wp2_with (first | (go_at_call 20; refine (rmay_yes w _ hw).mono ?_; rintro e w' ⟨rfl, rfl⟩) | (go_at_call 50; refine (rmask_yes w _ hw).mono ?_; rintro e w' ⟨rfl, rfl⟩) | (go_at_call 62; refine (rbit_any _ _).mono ?_; rintro e w' ⟨rfl, rfl⟩))
  go_ret2
  exact ⟨rfl, rfl⟩
theorem rdo_11z (w a b : Int) (W : World) (hw : mayw w) (ha0 : 0 ≤ a) (ha1 : a ≤ 65535) (hb0 : 0 ≤ b) (hb1 : b ≤ 65535) (hc : low w b = 0) :
    Calls Tryd.prog 51 #[.int .i64 11, .int .i64 w, .int .u16 a, .int .u16 b] W fun e W' => e = .returned (.tuple #[.int .u16 (low w a), .int .i64 0]) ∧ W = W' := by
  have hA : bits .and .u16 a (mask w) = low w a := u16_mask hw a ha0 ha1
  have hB : bits .and .u16 b (mask w) = low w b := u16_mask hw b hb0 hb1
  obtain ⟨bA0, bA1, bA2⟩ := low_bd hw a
  obtain ⟨bB0, bB1, bB2⟩ := low_bd hw b
  obtain ⟨hm0, hm1⟩ := mask_bd hw
  clear bB0 bB1 bB2
  go_enter Tryd.func51, Tryd.ntmps51
  go_wp2_with (first | (go_at_call 20; refine (rmay_yes w _ hw).mono ?_; rintro e w' ⟨rfl, rfl⟩) | (go_at_call 50; refine (rmask_yes w _ hw).mono ?_; rintro e w' ⟨rfl, rfl⟩) | (go_at_call 62; refine (rbit_any _ _).mono ?_; rintro e w' ⟨rfl, rfl⟩))
  go_ret2
  exact ⟨rfl, rfl⟩
theorem rdo_10n (w a b : Int) (W : World) (hw : mayw w) (ha0 : 0 ≤ a) (ha1 : a ≤ 65535) (hb0 : 0 ≤ b) (hb1 : b ≤ 65535) (hc : ¬ low w b = 0) :
    Calls Tryd.prog 51 #[.int .i64 10, .int .i64 w, .int .u16 a, .int .u16 b] W fun e W' => e = .returned (.tuple #[.int .u16 (low w a / low w b), .int .i64 0]) ∧ W = W' := by
  have hA : bits .and .u16 a (mask w) = low w a := u16_mask hw a ha0 ha1
  have hB : bits .and .u16 b (mask w) = low w b := u16_mask hw b hb0 hb1
  obtain ⟨bA0, bA1, bA2⟩ := low_bd hw a
  obtain ⟨bB0, bB1, bB2⟩ := low_bd hw b
  obtain ⟨hm0, hm1⟩ := mask_bd hw
  have hz : (low w b == 0) = false := by simpa using hc
  have hy : 1 ≤ low w b := by omega
  have hq := IntWalk.tdiv_le (low w a) (low w b) bA0 (by omega)
  obtain ⟨q0, q1⟩ := hq
  go_enter Tryd.func51, Tryd.ntmps51
  go_wp2_with (first | (go_at_call 20; refine (rmay_yes w _ hw).mono ?_; rintro e w' ⟨rfl, rfl⟩) | (go_at_call 50; refine (rmask_yes w _ hw).mono ?_; rintro e w' ⟨rfl, rfl⟩) | (go_at_call 62; refine (rbit_any _ _).mono ?_; rintro e w' ⟨rfl, rfl⟩))
  go_ret2
  exact ⟨rfl, rfl⟩
theorem rdo_11n (w a b : Int) (W : World) (hw : mayw w) (ha0 : 0 ≤ a) (ha1 : a ≤ 65535) (hb0 : 0 ≤ b) (hb1 : b ≤ 65535) (hc : ¬ low w b = 0) :
    Calls Tryd.prog 51 #[.int .i64 11, .int .i64 w, .int .u16 a, .int .u16 b] W fun e W' => e = .returned (.tuple #[.int .u16 (low w a % low w b), .int .i64 0]) ∧ W = W' := by
  have hA : bits .and .u16 a (mask w) = low w a := u16_mask hw a ha0 ha1
  have hB : bits .and .u16 b (mask w) = low w b := u16_mask hw b hb0 hb1
  obtain ⟨bA0, bA1, bA2⟩ := low_bd hw a
  obtain ⟨bB0, bB1, bB2⟩ := low_bd hw b
  obtain ⟨hm0, hm1⟩ := mask_bd hw
  have hz : (low w b == 0) = false := by simpa using hc
  have q0 := Int.emod_nonneg (low w a) hc
  have q1 := Int.emod_lt_of_pos (low w a) (b := low w b) (by omega)
  go_enter Tryd.func51, Tryd.ntmps51
  go_wp2_with (first | (go_at_call 20; refine (rmay_yes w _ hw).mono ?_; rintro e w' ⟨rfl, rfl⟩) | (go_at_call 50; refine (rmask_yes w _ hw).mono ?_; rintro e w' ⟨rfl, rfl⟩) | (go_at_call 62; refine (rbit_any _ _).mono ?_; rintro e w' ⟨rfl, rfl⟩))
  go_ret2
  exact ⟨rfl, rfl⟩
theorem rdo_12f (w a b : Int) (W : World) (hw : mayw w) (ha0 : 0 ≤ a) (ha1 : a ≤ 65535) (hb0 : 0 ≤ b) (hb1 : b ≤ 65535) (hc : w ≤ low w b) :
    Calls Tryd.prog 51 #[.int .i64 12, .int .i64 w, .int .u16 a, .int .u16 b] W fun e W' => e = .returned (.tuple #[.int .u16 (0), .int .i64 0]) ∧ W = W' := by
  have hA : bits .and .u16 a (mask w) = low w a := u16_mask hw a ha0 ha1
  have hB : bits .and .u16 b (mask w) = low w b := u16_mask hw b hb0 hb1
  obtain ⟨bA0, bA1, bA2⟩ := low_bd hw a
  obtain ⟨bB0, bB1, bB2⟩ := low_bd hw b
  obtain ⟨hm0, hm1⟩ := mask_bd hw
  go_enter Tryd.func51, Tryd.ntmps51
  go_wp2_with (first | (go_at_call 20; refine (rmay_yes w _ hw).mono ?_; rintro e w' ⟨rfl, rfl⟩) | (go_at_call 50; refine (rmask_yes w _ hw).mono ?_; rintro e w' ⟨rfl, rfl⟩) | (go_at_call 62; refine (rbit_any _ _).mono ?_; rintro e w' ⟨rfl, rfl⟩))
  go_ret2
  exact ⟨rfl, rfl⟩
theorem rdo_13f (w a b : Int) (W : World) (hw : mayw w) (ha0 : 0 ≤ a) (ha1 : a ≤ 65535) (hb0 : 0 ≤ b) (hb1 : b ≤ 65535) (hc : w ≤ low w b) :
    Calls Tryd.prog 51 #[.int .i64 13, .int .i64 w, .int .u16 a, .int .u16 b] W fun e W' => e = .returned (.tuple #[.int .u16 (0), .int .i64 0]) ∧ W = W' := by
  have hA : bits .and .u16 a (mask w) = low w a := u16_mask hw a ha0 ha1
  have hB : bits .and .u16 b (mask w) = low w b := u16_mask hw b hb0 hb1
  obtain ⟨bA0, bA1, bA2⟩ := low_bd hw a
  obtain ⟨bB0, bB1, bB2⟩ := low_bd hw b
  obtain ⟨hm0, hm1⟩ := mask_bd hw
  go_enter Tryd.func51, Tryd.ntmps51
  go_wp2_with (first | (go_at_call 20; refine (rmay_yes w _ hw).mono ?_; rintro e w' ⟨rfl, rfl⟩) | (go_at_call 50; refine (rmask_yes w _ hw).mono ?_; rintro e w' ⟨rfl, rfl⟩) | (go_at_call 62; refine (rbit_any _ _).mono ?_; rintro e w' ⟨rfl, rfl⟩))
  go_ret2
  exact ⟨rfl, rfl⟩
theorem rdo_12n (w a b : Int) (W : World) (hw : mayw w) (ha0 : 0 ≤ a) (ha1 : a ≤ 65535) (hb0 : 0 ≤ b) (hb1 : b ≤ 65535) (hc : low w b < w) :
    Calls Tryd.prog 51 #[.int .i64 12, .int .i64 w, .int .u16 a, .int .u16 b] W fun e W' => e = .returned (.tuple #[.int .u16 (low w a * 2 ^ (low w b).toNat % pw w), .int .i64 0]) ∧ W = W' := by
  have hA : bits .and .u16 a (mask w) = low w a := u16_mask hw a ha0 ha1
  have hB : bits .and .u16 b (mask w) = low w b := u16_mask hw b hb0 hb1
  obtain ⟨bA0, bA1, bA2⟩ := low_bd hw a
  obtain ⟨bB0, bB1, bB2⟩ := low_bd hw b
  obtain ⟨hm0, hm1⟩ := mask_bd hw
  have hw16 : w ≤ 16 := by rcases hw with rfl | rfl | rfl <;> omega
  have hR : bits .and .i64 (wrap64 (low w a * 2 ^ (low w b).toNat)) (mask w) = (low w a * 2 ^ (low w b).toNat) % pw w := by rw [i64_mask hw, wrap64_mod hw]
  obtain ⟨q0, q1, _⟩ := mod_bd hw (low w a * 2 ^ (low w b).toNat)
  go_enter Tryd.func51, Tryd.ntmps51
  go_wp2_with (first | (go_at_call 20; refine (rmay_yes w _ hw).mono ?_; rintro e w' ⟨rfl, rfl⟩) | (go_at_call 50; refine (rmask_yes w _ hw).mono ?_; rintro e w' ⟨rfl, rfl⟩) | (go_at_call 62; refine (rbit_any _ _).mono ?_; rintro e w' ⟨rfl, rfl⟩))
  go_ret2
  exact ⟨rfl, rfl⟩
theorem rdo_13n (w a b : Int) (W : World) (hw : mayw w) (ha0 : 0 ≤ a) (ha1 : a ≤ 65535) (hb0 : 0 ≤ b) (hb1 : b ≤ 65535) (hc : low w b < w) :
    Calls Tryd.prog 51 #[.int .i64 13, .int .i64 w, .int .u16 a, .int .u16 b] W fun e W' => e = .returned (.tuple #[.int .u16 (low w a / 2 ^ (low w b).toNat), .int .i64 0]) ∧ W = W' := by
  have hA : bits .and .u16 a (mask w) = low w a := u16_mask hw a ha0 ha1
  have hB : bits .and .u16 b (mask w) = low w b := u16_mask hw b hb0 hb1
  obtain ⟨bA0, bA1, bA2⟩ := low_bd hw a
  obtain ⟨bB0, bB1, bB2⟩ := low_bd hw b
  obtain ⟨hm0, hm1⟩ := mask_bd hw
  have hw16 : w ≤ 16 := by rcases hw with rfl | rfl | rfl <;> omega
  obtain ⟨q0, q1⟩ := shr_bd (low w a) (low w b).toNat bA0
  go_enter Tryd.func51, Tryd.ntmps51
  go_wp2_with (first | (go_at_call 20; refine (rmay_yes w _ hw).mono ?_; rintro e w' ⟨rfl, rfl⟩) | (go_at_call 50; refine (rmask_yes w _ hw).mono ?_; rintro e w' ⟨rfl, rfl⟩) | (go_at_call 62; refine (rbit_any _ _).mono ?_; rintro e w' ⟨rfl, rfl⟩))
  go_ret2
  exact ⟨rfl, rfl⟩
theorem rdo_14 (w a b : Int) (W : World) (hw : mayw w) (ha0 : 0 ≤ a) (ha1 : a ≤ 65535) (hb0 : 0 ≤ b) (hb1 : b ≤ 65535) :
    Calls Tryd.prog 51 #[.int .i64 14, .int .i64 w, .int .u16 a, .int .u16 b] W fun e W' => e = .returned (.tuple #[.int .u16 (bitV (low w a == low w b)), .int .i64 0]) ∧ W = W' := by
  have hA : bits .and .u16 a (mask w) = low w a := u16_mask hw a ha0 ha1
  have hB : bits .and .u16 b (mask w) = low w b := u16_mask hw b hb0 hb1
  obtain ⟨bA0, bA1, bA2⟩ := low_bd hw a
  obtain ⟨bB0, bB1, bB2⟩ := low_bd hw b
  obtain ⟨hm0, hm1⟩ := mask_bd hw
  go_enter Tryd.func51, Tryd.ntmps51
  go_wp2_with (first | (go_at_call 20; refine (rmay_yes w _ hw).mono ?_; rintro e w' ⟨rfl, rfl⟩) | (go_at_call 50; refine (rmask_yes w _ hw).mono ?_; rintro e w' ⟨rfl, rfl⟩) | (go_at_call 62; refine (rbit_any _ _).mono ?_; rintro e w' ⟨rfl, rfl⟩))
  go_ret2
  exact ⟨rfl, rfl⟩
theorem rdo_15 (w a b : Int) (W : World) (hw : mayw w) (ha0 : 0 ≤ a) (ha1 : a ≤ 65535) (hb0 : 0 ≤ b) (hb1 : b ≤ 65535) :
    Calls Tryd.prog 51 #[.int .i64 15, .int .i64 w, .int .u16 a, .int .u16 b] W fun e W' => e = .returned (.tuple #[.int .u16 (bitV (decide (low w a < low w b))), .int .i64 0]) ∧ W = W' := by
  have hA : bits .and .u16 a (mask w) = low w a := u16_mask hw a ha0 ha1
  have hB : bits .and .u16 b (mask w) = low w b := u16_mask hw b hb0 hb1
  obtain ⟨bA0, bA1, bA2⟩ := low_bd hw a
  obtain ⟨bB0, bB1, bB2⟩ := low_bd hw b
  obtain ⟨hm0, hm1⟩ := mask_bd hw
  go_enter Tryd.func51, Tryd.ntmps51
  go_wp2_with (first | (go_at_call 20; refine (rmay_yes w _ hw).mono ?_; rintro e w' ⟨rfl, rfl⟩) | (go_at_call 50; refine (rmask_yes w _ hw).mono ?_; rintro e w' ⟨rfl, rfl⟩) | (go_at_call 62; refine (rbit_any _ _).mono ?_; rintro e w' ⟨rfl, rfl⟩))
  go_ret2
  exact ⟨rfl, rfl⟩
theorem rdo_yes (op w a b : Int) (W : World) (hw : mayw w) (h0 : 3 ≤ op) (h1 : op ≤ 15) (ha0 : 0 ≤ a) (ha1 : a ≤ 65535) (hb0 : 0 ≤ b) (hb1 : b ≤ 65535) :
    Calls Tryd.prog 51 #[.int .i64 op, .int .i64 w, .int .u16 a, .int .u16 b] W fun e W' => e = .returned (.tuple #[.int .u16 (doM op w (low w a) (low w b)), .int .i64 0]) ∧ W = W' := by
  have h : op = 3 ∨ op = 4 ∨ op = 5 ∨ op = 6 ∨ op = 7 ∨ op = 8 ∨ op = 9 ∨ op = 10 ∨ op = 11 ∨ op = 12 ∨ op = 13 ∨ op = 14 ∨ op = 15 := by omega
  have la := low_bd hw a
  have lb := low_bd hw b
  clear h0 h1
  rcases h with rfl | rfl | rfl | rfl | rfl | rfl | rfl | rfl | rfl | rfl | rfl | rfl | rfl
  · exact rdo_3 w a b W hw ha0 ha1 hb0 hb1
  · exact rdo_4 w a b W hw ha0 ha1 hb0 hb1
  · exact rdo_5 w a b W hw ha0 ha1 hb0 hb1
  · exact rdo_6 w a b W hw ha0 ha1 hb0 hb1
  · exact rdo_7 w a b W hw ha0 ha1 hb0 hb1
  · exact rdo_8 w a b W hw ha0 ha1 hb0 hb1
  · exact rdo_9 w a b W hw ha0 ha1 hb0 hb1
  · by_cases hc : low w b = 0
    · have e : doM 10 w (low w a) (low w b) = mask w := by simp [doM, hc]
      rw [e]; exact rdo_10z w a b W hw ha0 ha1 hb0 hb1 hc
    · have e : doM 10 w (low w a) (low w b) = low w a / low w b := by simp [doM, hc]
      rw [e]; exact rdo_10n w a b W hw ha0 ha1 hb0 hb1 hc
  · by_cases hc : low w b = 0
    · have e : doM 11 w (low w a) (low w b) = low w a := by simp [doM, hc]
      rw [e]; exact rdo_11z w a b W hw ha0 ha1 hb0 hb1 hc
    · have e : doM 11 w (low w a) (low w b) = low w a % low w b := by simp [doM, hc]
      rw [e]; exact rdo_11n w a b W hw ha0 ha1 hb0 hb1 hc
  · have e : doM 12 w (low w a) (low w b) = low w a * 2 ^ (low w b).toNat % pw w := by simp [doM]
    by_cases hc : w ≤ low w b
    · rw [e, shl_far hw _ _ (by omega)]; exact rdo_12f w a b W hw ha0 ha1 hb0 hb1 hc
    · rw [e]; exact rdo_12n w a b W hw ha0 ha1 hb0 hb1 (by omega)
  · have e : doM 13 w (low w a) (low w b) = low w a / 2 ^ (low w b).toNat := by simp [doM]
    by_cases hc : w ≤ low w b
    · rw [e, shr_far hw _ _ (by omega) la.1 la.2.2]; exact rdo_13f w a b W hw ha0 ha1 hb0 hb1 hc
    · rw [e]; exact rdo_13n w a b W hw ha0 ha1 hb0 hb1 (by omega)
  · exact rdo_14 w a b W hw ha0 ha1 hb0 hb1
  · exact rdo_15 w a b W hw ha0 ha1 hb0 hb1
theorem rdo_width (op w a b : Int) (W : World) (hw : ¬ mayw w) :
    Calls Tryd.prog 51 #[.int .i64 op, .int .i64 w, .int .u16 a, .int .u16 b] W fun e W' => e = .returned (.tuple #[.int .u16 0, .int .i64 2]) ∧ W = W' := by
  go_enter Tryd.func51, Tryd.ntmps51
  go_wp2_with (go_at_call 20; refine (rmay_no w _ hw).mono ?_; rintro e w' ⟨rfl, rfl⟩)
  go_ret2
  exact ⟨rfl, rfl⟩
theorem rdo_op (op w a b : Int) (W : World) (hw : mayw w) (ho : ¬ (3 ≤ op ∧ op ≤ 15)) (ha0 : 0 ≤ a) (ha1 : a ≤ 65535) (hb0 : 0 ≤ b) (hb1 : b ≤ 65535) :
    Calls Tryd.prog 51 #[.int .i64 op, .int .i64 w, .int .u16 a, .int .u16 b] W fun e W' => e = .returned (.tuple #[.int .u16 0, .int .i64 5]) ∧ W = W' := by
  have hA : bits .and .u16 a (mask w) = low w a := u16_mask hw a ha0 ha1
  have hB : bits .and .u16 b (mask w) = low w b := u16_mask hw b hb0 hb1
  obtain ⟨bA0, bA1, bA2⟩ := low_bd hw a
  obtain ⟨bB0, bB1, bB2⟩ := low_bd hw b
  have t3 : (op == 3) = false := by simp; omega
  have t4 : (op == 4) = false := by simp; omega
  have t5 : (op == 5) = false := by simp; omega
  have t6 : (op == 6) = false := by simp; omega
  have t7 : (op == 7) = false := by simp; omega
  have t8 : (op == 8) = false := by simp; omega
  have t9 : (op == 9) = false := by simp; omega
  have t10 : (op == 10) = false := by simp; omega
  have t11 : (op == 11) = false := by simp; omega
  have t12 : (op == 12) = false := by simp; omega
  have t13 : (op == 13) = false := by simp; omega
  have t14 : (op == 14) = false := by simp; omega
  have t15 : (op == 15) = false := by simp; omega
  clear ho
  go_enter Tryd.func51, Tryd.ntmps51
  go_wp2_with (first | (go_at_call 20; refine (rmay_yes w _ hw).mono ?_; rintro e w' ⟨rfl, rfl⟩) | (go_at_call 50; refine (rmask_yes w _ hw).mono ?_; rintro e w' ⟨rfl, rfl⟩) | (go_at_call 62; refine (rbit_any _ _).mono ?_; rintro e w' ⟨rfl, rfl⟩))
  go_ret2
  exact ⟨rfl, rfl⟩
end Go.Proofs.YtgbmiphaabeodaaDoor
