/-
  What each function of package wide gives back, for every operator, width and number: contracts for the seat's laws.
-/
import Derived.Test.YtgbmiphaabeodaaDoorRows
import Derived.Test.YtgbmiphaabeodaaDoorMath2
import Derived.ProofKit
import Derived.OpenShut
import Derived.Outline
import Derived.Lib.Hide
namespace Go.Proofs.YtgbmiphaabeodaaDoor
open Go.ChangeShapes Go.WideShapes Go.ChangeAt Go.RowKit
set_option linter.unusedVariables false

theorem may_yes (w : Int) (W : World) (h : mayw w) :
    Calls Tryd.prog 35 #[.int .i64 w] W fun e W' => e = .returned (.bool true) ∧ W = W' := by
  rcases h with rfl | rfl | rfl
  all_goals
    go_enter Tryd.func35, Tryd.ntmps35
    go_wp2
    go_ret
    exact ⟨rfl, rfl⟩
theorem not_may {w : Int} (h : ¬ mayw w) : (w == 1) = false ∧ (w == 8) = false ∧ (w == 16) = false := by
  unfold mayw at h; simp; omega
theorem may_no (w : Int) (W : World) (h : ¬ mayw w) :
    Calls Tryd.prog 35 #[.int .i64 w] W fun e W' => e = .returned (.bool false) ∧ W = W' := by
  obtain ⟨h1, h8, h16⟩ := not_may h
  clear h
  go_enter Tryd.func35, Tryd.ntmps35
  go_wp2
  go_ret
  exact ⟨rfl, rfl⟩
theorem mask_yes (w : Int) (W : World) (h : mayw w) :
    Calls Tryd.prog 37 #[.int .i64 w] W fun e W' => e = .returned (.int .u16 (mask w)) ∧ W = W' := by
  rcases h with rfl | rfl | rfl
  all_goals
    go_enter Tryd.func37, Tryd.ntmps37
    go_wp2
    go_ret
    exact ⟨rfl, rfl⟩
theorem pw_no {w : Int} (h : ¬ mayw w) : pw w = 1 := by
  unfold mayw at h; unfold pw; rw [if_neg (by omega), if_neg (by omega), if_neg (by omega)]
theorem mask_no (w : Int) (W : World) (h : ¬ mayw w) :
    Calls Tryd.prog 37 #[.int .i64 w] W fun e W' => e = .returned (.int .u16 0) ∧ W = W' := by
  go_enter Tryd.func37, Tryd.ntmps37
  go_wp2_with (go_at_call 35; refine (may_no w _ h).mono ?_; rintro e w' ⟨rfl, rfl⟩)
  go_ret
  exact ⟨rfl, rfl⟩
theorem listed_yes (op : Int) (W : World) (h0 : 3 ≤ op) (h1 : op ≤ 15) :
    Calls Tryd.prog 55 #[.int .i64 op] W fun e W' => e = .returned (.bool true) ∧ W = W' := by
  go_enter Tryd.func55, Tryd.ntmps55
  go_wp2
  go_ret
  exact ⟨by simp_all, rfl⟩
theorem listed_no (op : Int) (W : World) (h : ¬ (3 ≤ op ∧ op ≤ 15)) :
    Calls Tryd.prog 55 #[.int .i64 op] W fun e W' => e = .returned (.bool false) ∧ W = W' := by
  by_cases h0 : 3 ≤ op
  · have h1 : 15 < op := by omega
    clear h
    go_enter Tryd.func55, Tryd.ntmps55
    go_wp2
    go_ret
    exact ⟨by simp; omega, rfl⟩
  · clear h
    go_enter Tryd.func55, Tryd.ntmps55
    go_wp2
    go_ret
    exact ⟨by simp, rfl⟩
theorem bit_any (b : Bool) (W : World) :
    Calls Tryd.prog 68 #[.bool b] W fun e W' => e = .returned (.int .u16 (bitV b)) ∧ W = W' := by
  cases b
  all_goals
    go_enter Tryd.func68, Tryd.ntmps68
    go_wp2
    go_ret
    exact ⟨rfl, rfl⟩
theorem do_3 (w a b : Int) (W : World) (hw : mayw w) (ha0 : 0 ≤ a) (ha1 : a ≤ 65535) (hb0 : 0 ≤ b) (hb1 : b ≤ 65535) :
    Calls Tryd.prog 56 #[.int .i64 3, .int .i64 w, .int .u16 a, .int .u16 b] W fun e W' => e = .returned (.tuple #[.int .u16 (mask w - low w a), .int .i64 0]) ∧ W = W' := by
  have hA : bits .and .u16 a (mask w) = low w a := u16_mask hw a ha0 ha1
  have hB : bits .and .u16 b (mask w) = low w b := u16_mask hw b hb0 hb1
  obtain ⟨bA0, bA1, bA2⟩ := low_bd hw a
  obtain ⟨bB0, bB1, bB2⟩ := low_bd hw b
  have hN : bits .and .u16 (bits .xor .u16 IntKind.u16.max (low w a)) (mask w) = mask w - low w a := by
    have h := not_mask hw (low w a) bA0 bA1
    rw [low_low hw] at h
    exact h
  go_enter Tryd.func56, Tryd.ntmps56
  go_wp2_with (first | (go_at_call 35; refine (may_yes w _ hw).mono ?_; rintro e w' ⟨rfl, rfl⟩) | (go_at_call 37; refine (mask_yes w _ hw).mono ?_; rintro e w' ⟨rfl, rfl⟩) | (go_at_call 68; refine (bit_any _ _).mono ?_; rintro e w' ⟨rfl, rfl⟩) | go_in)
  go_ret2
  exact ⟨rfl, rfl⟩
theorem do_4 (w a b : Int) (W : World) (hw : mayw w) (ha0 : 0 ≤ a) (ha1 : a ≤ 65535) (hb0 : 0 ≤ b) (hb1 : b ≤ 65535) :
    Calls Tryd.prog 56 #[.int .i64 4, .int .i64 w, .int .u16 a, .int .u16 b] W fun e W' => e = .returned (.tuple #[.int .u16 (bits .and .u16 (low w a) (low w b)), .int .i64 0]) ∧ W = W' := by
  have hA : bits .and .u16 a (mask w) = low w a := u16_mask hw a ha0 ha1
  have hB : bits .and .u16 b (mask w) = low w b := u16_mask hw b hb0 hb1
  obtain ⟨bA0, bA1, bA2⟩ := low_bd hw a
  obtain ⟨bB0, bB1, bB2⟩ := low_bd hw b
  go_enter Tryd.func56, Tryd.ntmps56
  go_wp2_with (first | (go_at_call 35; refine (may_yes w _ hw).mono ?_; rintro e w' ⟨rfl, rfl⟩) | (go_at_call 37; refine (mask_yes w _ hw).mono ?_; rintro e w' ⟨rfl, rfl⟩) | (go_at_call 68; refine (bit_any _ _).mono ?_; rintro e w' ⟨rfl, rfl⟩) | go_in)
  go_ret2
  exact ⟨rfl, rfl⟩
theorem do_5 (w a b : Int) (W : World) (hw : mayw w) (ha0 : 0 ≤ a) (ha1 : a ≤ 65535) (hb0 : 0 ≤ b) (hb1 : b ≤ 65535) :
    Calls Tryd.prog 56 #[.int .i64 5, .int .i64 w, .int .u16 a, .int .u16 b] W fun e W' => e = .returned (.tuple #[.int .u16 (bits .or .u16 (low w a) (low w b)), .int .i64 0]) ∧ W = W' := by
  have hA : bits .and .u16 a (mask w) = low w a := u16_mask hw a ha0 ha1
  have hB : bits .and .u16 b (mask w) = low w b := u16_mask hw b hb0 hb1
  obtain ⟨bA0, bA1, bA2⟩ := low_bd hw a
  obtain ⟨bB0, bB1, bB2⟩ := low_bd hw b
  go_enter Tryd.func56, Tryd.ntmps56
  go_wp2_with (first | (go_at_call 35; refine (may_yes w _ hw).mono ?_; rintro e w' ⟨rfl, rfl⟩) | (go_at_call 37; refine (mask_yes w _ hw).mono ?_; rintro e w' ⟨rfl, rfl⟩) | (go_at_call 68; refine (bit_any _ _).mono ?_; rintro e w' ⟨rfl, rfl⟩) | go_in)
  go_ret2
  exact ⟨rfl, rfl⟩
theorem do_6 (w a b : Int) (W : World) (hw : mayw w) (ha0 : 0 ≤ a) (ha1 : a ≤ 65535) (hb0 : 0 ≤ b) (hb1 : b ≤ 65535) :
    Calls Tryd.prog 56 #[.int .i64 6, .int .i64 w, .int .u16 a, .int .u16 b] W fun e W' => e = .returned (.tuple #[.int .u16 (bits .xor .u16 (low w a) (low w b)), .int .i64 0]) ∧ W = W' := by
  have hA : bits .and .u16 a (mask w) = low w a := u16_mask hw a ha0 ha1
  have hB : bits .and .u16 b (mask w) = low w b := u16_mask hw b hb0 hb1
  obtain ⟨bA0, bA1, bA2⟩ := low_bd hw a
  obtain ⟨bB0, bB1, bB2⟩ := low_bd hw b
  go_enter Tryd.func56, Tryd.ntmps56
  go_wp2_with (first | (go_at_call 35; refine (may_yes w _ hw).mono ?_; rintro e w' ⟨rfl, rfl⟩) | (go_at_call 37; refine (mask_yes w _ hw).mono ?_; rintro e w' ⟨rfl, rfl⟩) | (go_at_call 68; refine (bit_any _ _).mono ?_; rintro e w' ⟨rfl, rfl⟩) | go_in)
  go_ret2
  exact ⟨rfl, rfl⟩
theorem do_7 (w a b : Int) (W : World) (hw : mayw w) (ha0 : 0 ≤ a) (ha1 : a ≤ 65535) (hb0 : 0 ≤ b) (hb1 : b ≤ 65535) :
    Calls Tryd.prog 56 #[.int .i64 7, .int .i64 w, .int .u16 a, .int .u16 b] W fun e W' => e = .returned (.tuple #[.int .u16 ((low w a + low w b) % pw w), .int .i64 0]) ∧ W = W' := by
  have hA : bits .and .u16 a (mask w) = low w a := u16_mask hw a ha0 ha1
  have hB : bits .and .u16 b (mask w) = low w b := u16_mask hw b hb0 hb1
  obtain ⟨bA0, bA1, bA2⟩ := low_bd hw a
  obtain ⟨bB0, bB1, bB2⟩ := low_bd hw b
  have hR := u16_wrap_mask hw (low w a + low w b)
  go_enter Tryd.func56, Tryd.ntmps56
  go_wp2_with (first | (go_at_call 35; refine (may_yes w _ hw).mono ?_; rintro e w' ⟨rfl, rfl⟩) | (go_at_call 37; refine (mask_yes w _ hw).mono ?_; rintro e w' ⟨rfl, rfl⟩) | (go_at_call 68; refine (bit_any _ _).mono ?_; rintro e w' ⟨rfl, rfl⟩) | go_in)
  go_ret2
  exact ⟨rfl, rfl⟩
theorem do_8 (w a b : Int) (W : World) (hw : mayw w) (ha0 : 0 ≤ a) (ha1 : a ≤ 65535) (hb0 : 0 ≤ b) (hb1 : b ≤ 65535) :
    Calls Tryd.prog 56 #[.int .i64 8, .int .i64 w, .int .u16 a, .int .u16 b] W fun e W' => e = .returned (.tuple #[.int .u16 ((low w a - low w b) % pw w), .int .i64 0]) ∧ W = W' := by
  have hA : bits .and .u16 a (mask w) = low w a := u16_mask hw a ha0 ha1
  have hB : bits .and .u16 b (mask w) = low w b := u16_mask hw b hb0 hb1
  obtain ⟨bA0, bA1, bA2⟩ := low_bd hw a
  obtain ⟨bB0, bB1, bB2⟩ := low_bd hw b
  have hR := u16_wrap_mask hw (low w a - low w b)
  go_enter Tryd.func56, Tryd.ntmps56
  go_wp2_with (first | (go_at_call 35; refine (may_yes w _ hw).mono ?_; rintro e w' ⟨rfl, rfl⟩) | (go_at_call 37; refine (mask_yes w _ hw).mono ?_; rintro e w' ⟨rfl, rfl⟩) | (go_at_call 68; refine (bit_any _ _).mono ?_; rintro e w' ⟨rfl, rfl⟩) | go_in)
  go_ret2
  exact ⟨rfl, rfl⟩
theorem do_9 (w a b : Int) (W : World) (hw : mayw w) (ha0 : 0 ≤ a) (ha1 : a ≤ 65535) (hb0 : 0 ≤ b) (hb1 : b ≤ 65535) :
    Calls Tryd.prog 56 #[.int .i64 9, .int .i64 w, .int .u16 a, .int .u16 b] W fun e W' => e = .returned (.tuple #[.int .u16 ((low w a * low w b) % pw w), .int .i64 0]) ∧ W = W' := by
  have hA : bits .and .u16 a (mask w) = low w a := u16_mask hw a ha0 ha1
  have hB : bits .and .u16 b (mask w) = low w b := u16_mask hw b hb0 hb1
  obtain ⟨bA0, bA1, bA2⟩ := low_bd hw a
  obtain ⟨bB0, bB1, bB2⟩ := low_bd hw b
  have hR := u16_wrap_mask hw (low w a * low w b)
  go_enter Tryd.func56, Tryd.ntmps56
  go_wp2_with (first | (go_at_call 35; refine (may_yes w _ hw).mono ?_; rintro e w' ⟨rfl, rfl⟩) | (go_at_call 37; refine (mask_yes w _ hw).mono ?_; rintro e w' ⟨rfl, rfl⟩) | (go_at_call 68; refine (bit_any _ _).mono ?_; rintro e w' ⟨rfl, rfl⟩) | go_in)
  go_ret2
  exact ⟨rfl, rfl⟩
theorem do_10z (w a b : Int) (W : World) (hw : mayw w) (ha0 : 0 ≤ a) (ha1 : a ≤ 65535) (hb0 : 0 ≤ b) (hb1 : b ≤ 65535) (hc : low w b = 0) :
    Calls Tryd.prog 56 #[.int .i64 10, .int .i64 w, .int .u16 a, .int .u16 b] W fun e W' => e = .returned (.tuple #[.int .u16 (mask w), .int .i64 0]) ∧ W = W' := by
  have hA : bits .and .u16 a (mask w) = low w a := u16_mask hw a ha0 ha1
  have hB : bits .and .u16 b (mask w) = low w b := u16_mask hw b hb0 hb1
  obtain ⟨bA0, bA1, bA2⟩ := low_bd hw a
  obtain ⟨bB0, bB1, bB2⟩ := low_bd hw b
  have hM : bits .and .u16 (mask w) (mask w) = mask w := by
    have hm := mask_bd hw
    rw [u16_mask hw _ (by omega) (by omega)]
    exact low_of _ (by omega) (by unfold mask; omega)
  clear bB0 bB1 bB2
  go_enter Tryd.func56, Tryd.ntmps56
  go_wp2_with (first | (go_at_call 35; refine (may_yes w _ hw).mono ?_; rintro e w' ⟨rfl, rfl⟩) | (go_at_call 37; refine (mask_yes w _ hw).mono ?_; rintro e w' ⟨rfl, rfl⟩) | (go_at_call 68; refine (bit_any _ _).mono ?_; rintro e w' ⟨rfl, rfl⟩) | go_in)
  go_ret2
  exact ⟨rfl, rfl⟩
theorem do_11z (w a b : Int) (W : World) (hw : mayw w) (ha0 : 0 ≤ a) (ha1 : a ≤ 65535) (hb0 : 0 ≤ b) (hb1 : b ≤ 65535) (hc : low w b = 0) :
    Calls Tryd.prog 56 #[.int .i64 11, .int .i64 w, .int .u16 a, .int .u16 b] W fun e W' => e = .returned (.tuple #[.int .u16 (low w a), .int .i64 0]) ∧ W = W' := by
  have hA : bits .and .u16 a (mask w) = low w a := u16_mask hw a ha0 ha1
  have hB : bits .and .u16 b (mask w) = low w b := u16_mask hw b hb0 hb1
  obtain ⟨bA0, bA1, bA2⟩ := low_bd hw a
  obtain ⟨bB0, bB1, bB2⟩ := low_bd hw b
  have hM : bits .and .u16 (low w a) (mask w) = low w a := by
    rw [u16_mask hw _ (by omega) (by omega)]
    exact low_of _ (by omega) (by omega)
  clear bB0 bB1 bB2
  go_enter Tryd.func56, Tryd.ntmps56
  go_wp2_with (first | (go_at_call 35; refine (may_yes w _ hw).mono ?_; rintro e w' ⟨rfl, rfl⟩) | (go_at_call 37; refine (mask_yes w _ hw).mono ?_; rintro e w' ⟨rfl, rfl⟩) | (go_at_call 68; refine (bit_any _ _).mono ?_; rintro e w' ⟨rfl, rfl⟩) | go_in)
  go_ret2
  exact ⟨rfl, rfl⟩
theorem do_10n (w a b : Int) (W : World) (hw : mayw w) (ha0 : 0 ≤ a) (ha1 : a ≤ 65535) (hb0 : 0 ≤ b) (hb1 : b ≤ 65535) (hc : ¬ low w b = 0) :
    Calls Tryd.prog 56 #[.int .i64 10, .int .i64 w, .int .u16 a, .int .u16 b] W fun e W' => e = .returned (.tuple #[.int .u16 (low w a / low w b), .int .i64 0]) ∧ W = W' := by
  have hA : bits .and .u16 a (mask w) = low w a := u16_mask hw a ha0 ha1
  have hB : bits .and .u16 b (mask w) = low w b := u16_mask hw b hb0 hb1
  obtain ⟨bA0, bA1, bA2⟩ := low_bd hw a
  obtain ⟨bB0, bB1, bB2⟩ := low_bd hw b
  have hz : (low w b == 0) = false := by simpa using hc
  have hq := IntWalk.tdiv_le (low w a) (low w b) bA0 (by omega)
  have hD : IntKind.u16.wrap ((low w a).tdiv (low w b)) = low w a / low w b := by
    rw [Int.tdiv_eq_ediv_of_nonneg bA0]; exact IntWalk.u16_in _ (by omega)
  have hM : bits .and .u16 (low w a / low w b) (mask w) = low w a / low w b := by
    rw [u16_mask hw _ (by omega) (by omega)]
    exact low_of _ (by omega) (by omega)
  clear hq
  go_enter Tryd.func56, Tryd.ntmps56
  go_wp2_with (first | (go_at_call 35; refine (may_yes w _ hw).mono ?_; rintro e w' ⟨rfl, rfl⟩) | (go_at_call 37; refine (mask_yes w _ hw).mono ?_; rintro e w' ⟨rfl, rfl⟩) | (go_at_call 68; refine (bit_any _ _).mono ?_; rintro e w' ⟨rfl, rfl⟩) | go_in)
  go_ret2
  exact ⟨rfl, rfl⟩
theorem do_11n (w a b : Int) (W : World) (hw : mayw w) (ha0 : 0 ≤ a) (ha1 : a ≤ 65535) (hb0 : 0 ≤ b) (hb1 : b ≤ 65535) (hc : ¬ low w b = 0) :
    Calls Tryd.prog 56 #[.int .i64 11, .int .i64 w, .int .u16 a, .int .u16 b] W fun e W' => e = .returned (.tuple #[.int .u16 (low w a % low w b), .int .i64 0]) ∧ W = W' := by
  have hA : bits .and .u16 a (mask w) = low w a := u16_mask hw a ha0 ha1
  have hB : bits .and .u16 b (mask w) = low w b := u16_mask hw b hb0 hb1
  obtain ⟨bA0, bA1, bA2⟩ := low_bd hw a
  obtain ⟨bB0, bB1, bB2⟩ := low_bd hw b
  have hz : (low w b == 0) = false := by simpa using hc
  have hq0 := Int.emod_nonneg (low w a) hc
  have hq1 := Int.emod_lt_of_pos (low w a) (b := low w b) (by omega)
  have hM : bits .and .u16 (low w a % low w b) (mask w) = low w a % low w b := by
    rw [u16_mask hw _ (by omega) (by omega)]
    exact low_of _ (by omega) (by omega)
  clear hq0 hq1
  go_enter Tryd.func56, Tryd.ntmps56
  go_wp2_with (first | (go_at_call 35; refine (may_yes w _ hw).mono ?_; rintro e w' ⟨rfl, rfl⟩) | (go_at_call 37; refine (mask_yes w _ hw).mono ?_; rintro e w' ⟨rfl, rfl⟩) | (go_at_call 68; refine (bit_any _ _).mono ?_; rintro e w' ⟨rfl, rfl⟩) | go_in)
  go_ret2
  exact ⟨rfl, rfl⟩
theorem do_12 (w a b : Int) (W : World) (hw : mayw w) (ha0 : 0 ≤ a) (ha1 : a ≤ 65535) (hb0 : 0 ≤ b) (hb1 : b ≤ 65535) :
    Calls Tryd.prog 56 #[.int .i64 12, .int .i64 w, .int .u16 a, .int .u16 b] W fun e W' => e = .returned (.tuple #[.int .u16 (low w a * 2 ^ (low w b).toNat % pw w), .int .i64 0]) ∧ W = W' := by
  have hA : bits .and .u16 a (mask w) = low w a := u16_mask hw a ha0 ha1
  have hB : bits .and .u16 b (mask w) = low w b := u16_mask hw b hb0 hb1
  obtain ⟨bA0, bA1, bA2⟩ := low_bd hw a
  obtain ⟨bB0, bB1, bB2⟩ := low_bd hw b
  have hR := u16_wrap_mask hw (low w a * 2 ^ min (low w b).toNat 16)
  rw [shl_min hw] at hR
  go_enter Tryd.func56, Tryd.ntmps56
  go_wp2_with (first | (go_at_call 35; refine (may_yes w _ hw).mono ?_; rintro e w' ⟨rfl, rfl⟩) | (go_at_call 37; refine (mask_yes w _ hw).mono ?_; rintro e w' ⟨rfl, rfl⟩) | (go_at_call 68; refine (bit_any _ _).mono ?_; rintro e w' ⟨rfl, rfl⟩) | go_in)
  go_ret2
  exact ⟨rfl, rfl⟩
theorem do_13 (w a b : Int) (W : World) (hw : mayw w) (ha0 : 0 ≤ a) (ha1 : a ≤ 65535) (hb0 : 0 ≤ b) (hb1 : b ≤ 65535) :
    Calls Tryd.prog 56 #[.int .i64 13, .int .i64 w, .int .u16 a, .int .u16 b] W fun e W' => e = .returned (.tuple #[.int .u16 (low w a / 2 ^ (low w b).toNat), .int .i64 0]) ∧ W = W' := by
  have hA : bits .and .u16 a (mask w) = low w a := u16_mask hw a ha0 ha1
  have hB : bits .and .u16 b (mask w) = low w b := u16_mask hw b hb0 hb1
  obtain ⟨bA0, bA1, bA2⟩ := low_bd hw a
  obtain ⟨bB0, bB1, bB2⟩ := low_bd hw b
  have hq := shr_bd (low w a) (low w b).toNat bA0
  have hS := shr_min hw (low w a) (low w b).toNat bA0 bA2
  have hM : bits .and .u16 (low w a / 2 ^ (low w b).toNat) (mask w) = low w a / 2 ^ (low w b).toNat := by
    rw [u16_mask hw _ (by omega) (by omega)]
    exact low_of _ (by omega) (by omega)
  clear hq
  go_enter Tryd.func56, Tryd.ntmps56
  go_wp2_with (first | (go_at_call 35; refine (may_yes w _ hw).mono ?_; rintro e w' ⟨rfl, rfl⟩) | (go_at_call 37; refine (mask_yes w _ hw).mono ?_; rintro e w' ⟨rfl, rfl⟩) | (go_at_call 68; refine (bit_any _ _).mono ?_; rintro e w' ⟨rfl, rfl⟩) | go_in)
  go_ret2
  exact ⟨rfl, rfl⟩
theorem do_14 (w a b : Int) (W : World) (hw : mayw w) (ha0 : 0 ≤ a) (ha1 : a ≤ 65535) (hb0 : 0 ≤ b) (hb1 : b ≤ 65535) :
    Calls Tryd.prog 56 #[.int .i64 14, .int .i64 w, .int .u16 a, .int .u16 b] W fun e W' => e = .returned (.tuple #[.int .u16 (bitV (low w a == low w b)), .int .i64 0]) ∧ W = W' := by
  have hA : bits .and .u16 a (mask w) = low w a := u16_mask hw a ha0 ha1
  have hB : bits .and .u16 b (mask w) = low w b := u16_mask hw b hb0 hb1
  obtain ⟨bA0, bA1, bA2⟩ := low_bd hw a
  obtain ⟨bB0, bB1, bB2⟩ := low_bd hw b
  go_enter Tryd.func56, Tryd.ntmps56
  go_wp2_with (first | (go_at_call 35; refine (may_yes w _ hw).mono ?_; rintro e w' ⟨rfl, rfl⟩) | (go_at_call 37; refine (mask_yes w _ hw).mono ?_; rintro e w' ⟨rfl, rfl⟩) | (go_at_call 68; refine (bit_any _ _).mono ?_; rintro e w' ⟨rfl, rfl⟩) | go_in)
  go_ret2
  exact ⟨rfl, rfl⟩
theorem do_15 (w a b : Int) (W : World) (hw : mayw w) (ha0 : 0 ≤ a) (ha1 : a ≤ 65535) (hb0 : 0 ≤ b) (hb1 : b ≤ 65535) :
    Calls Tryd.prog 56 #[.int .i64 15, .int .i64 w, .int .u16 a, .int .u16 b] W fun e W' => e = .returned (.tuple #[.int .u16 (bitV (decide (low w a < low w b))), .int .i64 0]) ∧ W = W' := by
  have hA : bits .and .u16 a (mask w) = low w a := u16_mask hw a ha0 ha1
  have hB : bits .and .u16 b (mask w) = low w b := u16_mask hw b hb0 hb1
  obtain ⟨bA0, bA1, bA2⟩ := low_bd hw a
  obtain ⟨bB0, bB1, bB2⟩ := low_bd hw b
  go_enter Tryd.func56, Tryd.ntmps56
  go_wp2_with (first | (go_at_call 35; refine (may_yes w _ hw).mono ?_; rintro e w' ⟨rfl, rfl⟩) | (go_at_call 37; refine (mask_yes w _ hw).mono ?_; rintro e w' ⟨rfl, rfl⟩) | (go_at_call 68; refine (bit_any _ _).mono ?_; rintro e w' ⟨rfl, rfl⟩) | go_in)
  go_ret2
  exact ⟨rfl, rfl⟩
theorem do_yes (op w a b : Int) (W : World) (hw : mayw w) (h0 : 3 ≤ op) (h1 : op ≤ 15) (ha0 : 0 ≤ a) (ha1 : a ≤ 65535) (hb0 : 0 ≤ b) (hb1 : b ≤ 65535) :
    Calls Tryd.prog 56 #[.int .i64 op, .int .i64 w, .int .u16 a, .int .u16 b] W fun e W' => e = .returned (.tuple #[.int .u16 (doM op w (low w a) (low w b)), .int .i64 0]) ∧ W = W' := by
  have h : op = 3 ∨ op = 4 ∨ op = 5 ∨ op = 6 ∨ op = 7 ∨ op = 8 ∨ op = 9 ∨ op = 10 ∨ op = 11 ∨ op = 12 ∨ op = 13 ∨ op = 14 ∨ op = 15 := by omega
  clear h0 h1
  rcases h with rfl | rfl | rfl | rfl | rfl | rfl | rfl | rfl | rfl | rfl | rfl | rfl | rfl
  · exact do_3 w a b W hw ha0 ha1 hb0 hb1
  · exact do_4 w a b W hw ha0 ha1 hb0 hb1
  · exact do_5 w a b W hw ha0 ha1 hb0 hb1
  · exact do_6 w a b W hw ha0 ha1 hb0 hb1
  · exact do_7 w a b W hw ha0 ha1 hb0 hb1
  · exact do_8 w a b W hw ha0 ha1 hb0 hb1
  · exact do_9 w a b W hw ha0 ha1 hb0 hb1
  · by_cases hc : low w b = 0
    · have e : doM 10 w (low w a) (low w b) = mask w := by simp [doM, hc]
      rw [e]; exact do_10z w a b W hw ha0 ha1 hb0 hb1 hc
    · have e : doM 10 w (low w a) (low w b) = low w a / low w b := by simp [doM, hc]
      rw [e]; exact do_10n w a b W hw ha0 ha1 hb0 hb1 hc
  · by_cases hc : low w b = 0
    · have e : doM 11 w (low w a) (low w b) = low w a := by simp [doM, hc]
      rw [e]; exact do_11z w a b W hw ha0 ha1 hb0 hb1 hc
    · have e : doM 11 w (low w a) (low w b) = low w a % low w b := by simp [doM, hc]
      rw [e]; exact do_11n w a b W hw ha0 ha1 hb0 hb1 hc
  · exact do_12 w a b W hw ha0 ha1 hb0 hb1
  · exact do_13 w a b W hw ha0 ha1 hb0 hb1
  · exact do_14 w a b W hw ha0 ha1 hb0 hb1
  · exact do_15 w a b W hw ha0 ha1 hb0 hb1
theorem do_width (op w a b : Int) (W : World) (hw : ¬ mayw w) :
    Calls Tryd.prog 56 #[.int .i64 op, .int .i64 w, .int .u16 a, .int .u16 b] W fun e W' => e = .returned (.tuple #[.int .u16 0, .int .i64 2]) ∧ W = W' := by
  go_enter Tryd.func56, Tryd.ntmps56
  go_wp2_with (go_at_call 35; refine (may_no w _ hw).mono ?_; rintro e w' ⟨rfl, rfl⟩)
  go_ret2
  exact ⟨rfl, rfl⟩
theorem do_op (op w a b : Int) (W : World) (hw : mayw w) (ho : ¬ (3 ≤ op ∧ op ≤ 15)) :
    Calls Tryd.prog 56 #[.int .i64 op, .int .i64 w, .int .u16 a, .int .u16 b] W fun e W' => e = .returned (.tuple #[.int .u16 0, .int .i64 5]) ∧ W = W' := by
  have HO := Lib.hid ho
  clear ho
  go_enter Tryd.func56, Tryd.ntmps56
  go_wp2_with (first | (go_at_call 35; refine (may_yes w _ hw).mono ?_; rintro e w' ⟨rfl, rfl⟩) | (go_at_call 55; refine (listed_no op _ HO.out).mono ?_; rintro e w' ⟨rfl, rfl⟩))
  go_ret2
  exact ⟨rfl, rfl⟩
theorem out_yes (op w : Int) (W : World) (hw : mayw w) (h0 : 3 ≤ op) (h1 : op ≤ 15) :
    Calls Tryd.prog 39 #[.int .i64 op, .int .i64 w] W fun e W' => e = .returned (.int .i64 (outV op w)) ∧ W = W' := by
  by_cases h14 : op = 14
  · subst h14
    have e : outV 14 w = 1 := rfl
    rw [e]; clear e
    go_enter Tryd.func39, Tryd.ntmps39
    go_wp2_with (first | (go_at_call 35; refine (may_yes w _ hw).mono ?_; rintro e w' ⟨rfl, rfl⟩) | (go_at_call 55; refine (listed_yes _ _ (by decide) (by decide)).mono ?_; rintro e w' ⟨rfl, rfl⟩))
    go_ret
    exact ⟨rfl, rfl⟩
  by_cases h15 : op = 15
  · subst h15
    have e : outV 15 w = 1 := rfl
    rw [e]; clear e h14
    go_enter Tryd.func39, Tryd.ntmps39
    go_wp2_with (first | (go_at_call 35; refine (may_yes w _ hw).mono ?_; rintro e w' ⟨rfl, rfl⟩) | (go_at_call 55; refine (listed_yes _ _ (by decide) (by decide)).mono ?_; rintro e w' ⟨rfl, rfl⟩))
    go_ret
    exact ⟨rfl, rfl⟩
  have e : outV op w = w := by unfold outV; rw [if_neg h14, if_neg h15]
  rw [e]; clear e
  have t14 : (op == 14) = false := by simpa using h14
  have t15 : (op == 15) = false := by simpa using h15
  clear h14 h15
  go_enter Tryd.func39, Tryd.ntmps39
  go_wp2_with (first | (go_at_call 35; refine (may_yes w _ hw).mono ?_; rintro e w' ⟨rfl, rfl⟩) | (go_at_call 55; refine (listed_yes op _ h0 h1).mono ?_; rintro e w' ⟨rfl, rfl⟩))
  go_ret
  exact ⟨rfl, rfl⟩
theorem out_no (op w : Int) (W : World) (h : ¬ (mayw w ∧ 3 ≤ op ∧ op ≤ 15)) :
    Calls Tryd.prog 39 #[.int .i64 op, .int .i64 w] W fun e W' => e = .returned (.int .i64 0) ∧ W = W' := by
  have H := Lib.hid h
  clear h
  by_cases hw : mayw w
  · go_enter Tryd.func39, Tryd.ntmps39
    go_wp2_with (first | (go_at_call 35; refine (may_yes w _ hw).mono ?_; rintro e w' ⟨rfl, rfl⟩) | (go_at_call 55; refine (listed_no op _ (fun h2 => H.out ⟨hw, h2⟩)).mono ?_; rintro e w' ⟨rfl, rfl⟩))
    go_ret
    exact ⟨rfl, rfl⟩
  · go_enter Tryd.func39, Tryd.ntmps39
    go_wp2_with (first | (go_at_call 35; refine (may_no w _ hw).mono ?_; rintro e w' ⟨rfl, rfl⟩))
    go_ret
    exact ⟨rfl, rfl⟩
end Go.Proofs.YtgbmiphaabeodaaDoor
