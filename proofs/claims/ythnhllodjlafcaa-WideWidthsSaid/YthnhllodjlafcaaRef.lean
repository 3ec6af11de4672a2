/-
  What Of and Signed of package wide, the document's own answers for chapter 1, and the first sentence of each law give back: contracts for the seat's laws.
-/
import Derived.Test.YthnhllodjlafcaaWide
namespace Go.Proofs.Ythnhllodjlafcaa
open Go.ChangeShapes Go.WideShapes Go.ChangeAt Go.RowKit
set_option linter.unusedVariables false

theorem of_yes (w n : Int) (W : World) (hw : mayw w) :
    Calls Try.prog 18 #[.int .i64 w, .int .i64 n] W fun e W' => e = .returned (.int .u16 (low w n)) ∧ W = W' := by
  have hR : bits .and .u16 (IntKind.u16.wrap n) (mask w) = low w n := u16_wrap_mask hw n
  go_enter Try.func18, Try.ntmps18
  go_wp2_with (go_at_call 15; refine (mask_yes w _ hw).mono ?_; rintro e w' ⟨rfl, rfl⟩)
  go_ret
  exact ⟨rfl, rfl⟩
theorem and_zero (x : Int) (h0 : 0 ≤ x) (h1 : x ≤ 65535) : bits .and .u16 x 0 = 0 := by
  rw [u16_and x 0 h0 (by omega) (by omega) (by omega)]; simp
theorem of_no (w n : Int) (W : World) (hw : ¬ mayw w) :
    Calls Try.prog 18 #[.int .i64 w, .int .i64 n] W fun e W' => e = .returned (.int .u16 0) ∧ W = W' := by
  have hR := and_zero (IntKind.u16.wrap n) (wrap_bd n).1 (wrap_bd n).2
  go_enter Try.func18, Try.ntmps18
  go_wp2_with (go_at_call 15; refine (mask_no w _ hw).mono ?_; rintro e w' ⟨rfl, rfl⟩)
  go_ret
  exact ⟨rfl, rfl⟩
theorem sgn_bd {w : Int} (hw : mayw w) (a : Int) : -32768 ≤ sgn w a ∧ sgn w a ≤ 32767 := by
  have h1 := pw_bd hw
  have h2 := low_bd hw a
  unfold sgn; split <;> omega
theorem i16_wrap (n : Int) : IntKind.i16.wrap n = (n + 32768) % 65536 - 32768 := by
  simp only [IntKind.wrap, IntKind.bits, IntKind.signed]; simp; split <;> omega
theorem signed_yes (w a : Int) (W : World) (hw : mayw w) (ha0 : 0 ≤ a) (ha1 : a ≤ 65535) :
    Calls Try.prog 17 #[.int .i64 w, .int .u16 a] W fun e W' => e = .returned (.int .i64 (sgn w a)) ∧ W = W' := by
  have hb := sgn_bd hw a
  have h1 : mayw w → w = 1 → IntKind.i16.wrap (IntKind.u16.wrap (a * 32768)) / 32768 = sgn w a := by
    rintro _ rfl
    rw [i16_wrap, IntKind.wrap_u16]; unfold sgn low pw; simp; split <;> omega
  have h8 : mayw w → w = 8 → IntKind.i16.wrap (IntKind.u16.wrap (a * 256)) / 256 = sgn w a := by
    rintro _ rfl
    rw [i16_wrap, IntKind.wrap_u16]; unfold sgn low pw; simp; split <;> omega
  have h16 : mayw w → w = 16 → IntKind.i16.wrap a = sgn w a := by
    rintro _ rfl
    rw [i16_wrap]; unfold sgn low pw; simp; split <;> omega
  obtain ⟨hb0, hb1⟩ := hb
  rcases hw with rfl | rfl | rfl
  · have e := h1 (.inl rfl) rfl
    clear h1 h8 h16
    go_enter Try.func17, Try.ntmps17
    go_wp2_with (go_at_call 13; refine (may_yes _ _ (.inl rfl)).mono ?_; rintro e w' ⟨rfl, rfl⟩)
    go_ret
    exact ⟨rfl, rfl⟩
  · have e := h8 (.inr (.inl rfl)) rfl
    clear h1 h8 h16
    go_enter Try.func17, Try.ntmps17
    go_wp2_with (go_at_call 13; refine (may_yes _ _ (.inr (.inl rfl))).mono ?_; rintro e w' ⟨rfl, rfl⟩)
    go_ret
    exact ⟨rfl, rfl⟩
  · have e := h16 (.inr (.inr rfl)) rfl
    clear h1 h8 h16
    go_enter Try.func17, Try.ntmps17
    go_wp2_with (go_at_call 13; refine (may_yes _ _ (.inr (.inr rfl))).mono ?_; rintro e w' ⟨rfl, rfl⟩)
    go_ret
    exact ⟨rfl, rfl⟩
theorem signed_no (w a : Int) (W : World) (hw : ¬ mayw w) :
    Calls Try.prog 17 #[.int .i64 w, .int .u16 a] W fun e W' => e = .returned (.int .i64 0) ∧ W = W' := by
  go_enter Try.func17, Try.ntmps17
  go_wp2_with (go_at_call 13; refine (may_no w _ hw).mono ?_; rintro e w' ⟨rfl, rfl⟩)
  go_ret
  exact ⟨rfl, rfl⟩

/-! ### The first sentence of each law. -/
theorem awake_any (W : World) :
    Calls Try.prog 9 #[] W fun e W' => e = .returned (.bool true) ∧ W = W' := by
  have m8 : mayw 8 := .inr (.inl rfl)
  have m16 : mayw 16 := .inr (.inr rfl)
  have e1 : ∀ W : World, Calls Try.prog 10 #[.int .i64 8, .int .i64 8, .int .u16 0, .int .u16 1] W fun e W' => e = .returned (.tuple #[.int .u16 255, .int .i64 0]) ∧ W = W' :=
    fun W => do_yes 8 8 0 1 W m8 (by decide) (by decide) (by decide) (by decide) (by decide) (by decide)
  have e2 : ∀ W : World, Calls Try.prog 15 #[.int .i64 8] W fun e W' => e = .returned (.int .u16 255) ∧ W = W' := fun W => mask_yes 8 W m8
  have e3 : ∀ W : World, Calls Try.prog 17 #[.int .i64 8, .int .u16 255] W fun e W' => e = .returned (.int .i64 (-1)) ∧ W = W' :=
    fun W => signed_yes 8 255 W m8 (by decide) (by decide)
  have e4 : ∀ W : World, Calls Try.prog 12 #[.int .i64 14, .int .i64 16] W fun e W' => e = .returned (.int .i64 1) ∧ W = W' :=
    fun W => out_yes 14 16 W m16 (by decide) (by decide)
  have e5 : ∀ W : World, Calls Try.prog 18 #[.int .i64 8, .int .i64 (-1)] W fun e W' => e = .returned (.int .u16 255) ∧ W = W' := fun W => of_yes 8 (-1) W m8
  go_enter Try.func9, Try.ntmps9
  go_wp2_with (first | (go_at_call 10; refine (e1 _).mono ?_; rintro e w' ⟨rfl, rfl⟩) | (go_at_call 13; refine (may_yes _ _ m16).mono ?_; rintro e w' ⟨rfl, rfl⟩) | (go_at_call 15; refine (e2 _).mono ?_; rintro e w' ⟨rfl, rfl⟩) | (go_at_call 17; refine (e3 _).mono ?_; rintro e w' ⟨rfl, rfl⟩) | (go_at_call 12; refine (e4 _).mono ?_; rintro e w' ⟨rfl, rfl⟩) | (go_at_call 18; refine (e5 _).mono ?_; rintro e w' ⟨rfl, rfl⟩))
  go_ret
  exact ⟨rfl, rfl⟩

/-! ### The document's own answers. -/
theorem rmay_yes (w : Int) (W : World) (h : mayw w) :
    Calls Try.prog 14 #[.int .i64 w] W fun e W' => e = .returned (.bool true) ∧ W = W' := by
  rcases h with rfl | rfl | rfl
  all_goals
    go_enter Try.func14, Try.ntmps14
    go_wp2
    go_ret
    exact ⟨rfl, rfl⟩
theorem rmay_no (w : Int) (W : World) (h : ¬ mayw w) :
    Calls Try.prog 14 #[.int .i64 w] W fun e W' => e = .returned (.bool false) ∧ W = W' := by
  obtain ⟨h1, h8, h16⟩ := not_may h
  clear h
  go_enter Try.func14, Try.ntmps14
  go_wp2
  go_ret
  exact ⟨rfl, rfl⟩
theorem rmask_yes (w : Int) (W : World) (h : mayw w) :
    Calls Try.prog 16 #[.int .i64 w] W fun e W' => e = .returned (.int .u16 (mask w)) ∧ W = W' := by
  rcases h with rfl | rfl | rfl
  all_goals
    go_enter Try.func16, Try.ntmps16
    go_wp2
    go_ret
    exact ⟨rfl, rfl⟩
theorem rmask_no (w : Int) (W : World) (h : ¬ mayw w) :
    Calls Try.prog 16 #[.int .i64 w] W fun e W' => e = .returned (.int .u16 0) ∧ W = W' := by
  go_enter Try.func16, Try.ntmps16
  go_wp2_with (go_at_call 14; refine (rmay_no w _ h).mono ?_; rintro e w' ⟨rfl, rfl⟩)
  go_ret
  exact ⟨rfl, rfl⟩
theorem rbit_any (b : Bool) (W : World) :
    Calls Try.prog 25 #[.bool b] W fun e W' => e = .returned (.int .u16 (bitV b)) ∧ W = W' := by
  cases b
  all_goals
    go_enter Try.func25, Try.ntmps25
    go_wp2
    go_ret
    exact ⟨rfl, rfl⟩
theorem rdo_3 (w a b : Int) (W : World) (hw : mayw w) (ha0 : 0 ≤ a) (ha1 : a ≤ 65535) (hb0 : 0 ≤ b) (hb1 : b ≤ 65535) :
    Calls Try.prog 11 #[.int .i64 3, .int .i64 w, .int .u16 a, .int .u16 b] W fun e W' => e = .returned (.tuple #[.int .u16 (mask w - low w a), .int .i64 0]) ∧ W = W' := by
  have hA : bits .and .u16 a (mask w) = low w a := u16_mask hw a ha0 ha1
  have hB : bits .and .u16 b (mask w) = low w b := u16_mask hw b hb0 hb1
  obtain ⟨bA0, bA1, bA2⟩ := low_bd hw a
  obtain ⟨bB0, bB1, bB2⟩ := low_bd hw b
  obtain ⟨hm0, hm1⟩ := mask_bd hw
  have hN : bits .and .u16 (bits .xor .u16 IntKind.u16.max a) (mask w) = mask w - low w a := not_mask hw a ha0 ha1
  go_enter Try.func11, Try.ntmps11
  go_wp2_with (first | (go_at_call 14; refine (rmay_yes w _ hw).mono ?_; rintro e w' ⟨rfl, rfl⟩) | (go_at_call 16; refine (rmask_yes w _ hw).mono ?_; rintro e w' ⟨rfl, rfl⟩) | (go_at_call 25; refine (rbit_any _ _).mono ?_; rintro e w' ⟨rfl, rfl⟩))
  go_ret2
  exact ⟨rfl, rfl⟩
theorem rdo_4 (w a b : Int) (W : World) (hw : mayw w) (ha0 : 0 ≤ a) (ha1 : a ≤ 65535) (hb0 : 0 ≤ b) (hb1 : b ≤ 65535) :
    Calls Try.prog 11 #[.int .i64 4, .int .i64 w, .int .u16 a, .int .u16 b] W fun e W' => e = .returned (.tuple #[.int .u16 (bits .and .u16 (low w a) (low w b)), .int .i64 0]) ∧ W = W' := by
  have hA : bits .and .u16 a (mask w) = low w a := u16_mask hw a ha0 ha1
  have hB : bits .and .u16 b (mask w) = low w b := u16_mask hw b hb0 hb1
  obtain ⟨bA0, bA1, bA2⟩ := low_bd hw a
  obtain ⟨bB0, bB1, bB2⟩ := low_bd hw b
  obtain ⟨hm0, hm1⟩ := mask_bd hw
  have hX : bits .and .u16 (bits .and .u16 a b) (mask w) = bits .and .u16 (low w a) (low w b) := by
    have h := and_bd a b ⟨ha0, ha1⟩ ⟨hb0, hb1⟩
    rw [u16_mask hw _ h.1 h.2, (bits_low hw a b ⟨ha0, ha1⟩ ⟨hb0, hb1⟩).1]
  go_enter Try.func11, Try.ntmps11
  go_wp2_with (first | (go_at_call 14; refine (rmay_yes w _ hw).mono ?_; rintro e w' ⟨rfl, rfl⟩) | (go_at_call 16; refine (rmask_yes w _ hw).mono ?_; rintro e w' ⟨rfl, rfl⟩) | (go_at_call 25; refine (rbit_any _ _).mono ?_; rintro e w' ⟨rfl, rfl⟩))
  go_ret2
  exact ⟨rfl, rfl⟩
theorem rdo_5 (w a b : Int) (W : World) (hw : mayw w) (ha0 : 0 ≤ a) (ha1 : a ≤ 65535) (hb0 : 0 ≤ b) (hb1 : b ≤ 65535) :
    Calls Try.prog 11 #[.int .i64 5, .int .i64 w, .int .u16 a, .int .u16 b] W fun e W' => e = .returned (.tuple #[.int .u16 (bits .or .u16 (low w a) (low w b)), .int .i64 0]) ∧ W = W' := by
  have hA : bits .and .u16 a (mask w) = low w a := u16_mask hw a ha0 ha1
  have hB : bits .and .u16 b (mask w) = low w b := u16_mask hw b hb0 hb1
  obtain ⟨bA0, bA1, bA2⟩ := low_bd hw a
  obtain ⟨bB0, bB1, bB2⟩ := low_bd hw b
  obtain ⟨hm0, hm1⟩ := mask_bd hw
  have hX : bits .and .u16 (bits .or .u16 a b) (mask w) = bits .or .u16 (low w a) (low w b) := by
    have h := or_bd a b ⟨ha0, ha1⟩ ⟨hb0, hb1⟩
    rw [u16_mask hw _ h.1 h.2, (bits_low hw a b ⟨ha0, ha1⟩ ⟨hb0, hb1⟩).2.1]
  go_enter Try.func11, Try.ntmps11
  go_wp2_with (first | (go_at_call 14; refine (rmay_yes w _ hw).mono ?_; rintro e w' ⟨rfl, rfl⟩) | (go_at_call 16; refine (rmask_yes w _ hw).mono ?_; rintro e w' ⟨rfl, rfl⟩) | (go_at_call 25; refine (rbit_any _ _).mono ?_; rintro e w' ⟨rfl, rfl⟩))
  go_ret2
  exact ⟨rfl, rfl⟩
theorem rdo_6 (w a b : Int) (W : World) (hw : mayw w) (ha0 : 0 ≤ a) (ha1 : a ≤ 65535) (hb0 : 0 ≤ b) (hb1 : b ≤ 65535) :
    Calls Try.prog 11 #[.int .i64 6, .int .i64 w, .int .u16 a, .int .u16 b] W fun e W' => e = .returned (.tuple #[.int .u16 (bits .xor .u16 (low w a) (low w b)), .int .i64 0]) ∧ W = W' := by
  have hA : bits .and .u16 a (mask w) = low w a := u16_mask hw a ha0 ha1
  have hB : bits .and .u16 b (mask w) = low w b := u16_mask hw b hb0 hb1
  obtain ⟨bA0, bA1, bA2⟩ := low_bd hw a
  obtain ⟨bB0, bB1, bB2⟩ := low_bd hw b
  obtain ⟨hm0, hm1⟩ := mask_bd hw
  have hX : bits .and .u16 (bits .xor .u16 a b) (mask w) = bits .xor .u16 (low w a) (low w b) := by
    have h := xor_bd a b ⟨ha0, ha1⟩ ⟨hb0, hb1⟩
    rw [u16_mask hw _ h.1 h.2, (bits_low hw a b ⟨ha0, ha1⟩ ⟨hb0, hb1⟩).2.2]
  go_enter Try.func11, Try.ntmps11
  go_wp2_with (first | (go_at_call 14; refine (rmay_yes w _ hw).mono ?_; rintro e w' ⟨rfl, rfl⟩) | (go_at_call 16; refine (rmask_yes w _ hw).mono ?_; rintro e w' ⟨rfl, rfl⟩) | (go_at_call 25; refine (rbit_any _ _).mono ?_; rintro e w' ⟨rfl, rfl⟩))
  go_ret2
  exact ⟨rfl, rfl⟩
theorem rdo_7 (w a b : Int) (W : World) (hw : mayw w) (ha0 : 0 ≤ a) (ha1 : a ≤ 65535) (hb0 : 0 ≤ b) (hb1 : b ≤ 65535) :
    Calls Try.prog 11 #[.int .i64 7, .int .i64 w, .int .u16 a, .int .u16 b] W fun e W' => e = .returned (.tuple #[.int .u16 ((low w a + low w b) % pw w), .int .i64 0]) ∧ W = W' := by
  have hA : bits .and .u16 a (mask w) = low w a := u16_mask hw a ha0 ha1
  have hB : bits .and .u16 b (mask w) = low w b := u16_mask hw b hb0 hb1
  obtain ⟨bA0, bA1, bA2⟩ := low_bd hw a
  obtain ⟨bB0, bB1, bB2⟩ := low_bd hw b
  obtain ⟨hm0, hm1⟩ := mask_bd hw
  have hR := i64_mask hw (low w a + low w b)
  obtain ⟨q0, q1, _⟩ := mod_bd hw (low w a + low w b)
  go_enter Try.func11, Try.ntmps11
  go_wp2_with (first | (go_at_call 14; refine (rmay_yes w _ hw).mono ?_; rintro e w' ⟨rfl, rfl⟩) | (go_at_call 16; refine (rmask_yes w _ hw).mono ?_; rintro e w' ⟨rfl, rfl⟩) | (go_at_call 25; refine (rbit_any _ _).mono ?_; rintro e w' ⟨rfl, rfl⟩))
  go_ret2
  exact ⟨rfl, rfl⟩
theorem rdo_8 (w a b : Int) (W : World) (hw : mayw w) (ha0 : 0 ≤ a) (ha1 : a ≤ 65535) (hb0 : 0 ≤ b) (hb1 : b ≤ 65535) :
    Calls Try.prog 11 #[.int .i64 8, .int .i64 w, .int .u16 a, .int .u16 b] W fun e W' => e = .returned (.tuple #[.int .u16 ((low w a - low w b) % pw w), .int .i64 0]) ∧ W = W' := by
  have hA : bits .and .u16 a (mask w) = low w a := u16_mask hw a ha0 ha1
  have hB : bits .and .u16 b (mask w) = low w b := u16_mask hw b hb0 hb1
  obtain ⟨bA0, bA1, bA2⟩ := low_bd hw a
  obtain ⟨bB0, bB1, bB2⟩ := low_bd hw b
  obtain ⟨hm0, hm1⟩ := mask_bd hw
  have hR := i64_mask hw (low w a - low w b)
  obtain ⟨q0, q1, _⟩ := mod_bd hw (low w a - low w b)
  go_enter Try.func11, Try.ntmps11
  go_wp2_with (first | (go_at_call 14; refine (rmay_yes w _ hw).mono ?_; rintro e w' ⟨rfl, rfl⟩) | (go_at_call 16; refine (rmask_yes w _ hw).mono ?_; rintro e w' ⟨rfl, rfl⟩) | (go_at_call 25; refine (rbit_any _ _).mono ?_; rintro e w' ⟨rfl, rfl⟩))
  go_ret2
  exact ⟨rfl, rfl⟩
theorem rdo_9 (w a b : Int) (W : World) (hw : mayw w) (ha0 : 0 ≤ a) (ha1 : a ≤ 65535) (hb0 : 0 ≤ b) (hb1 : b ≤ 65535) :
    Calls Try.prog 11 #[.int .i64 9, .int .i64 w, .int .u16 a, .int .u16 b] W fun e W' => e = .returned (.tuple #[.int .u16 ((low w a * low w b) % pw w), .int .i64 0]) ∧ W = W' := by
  have hA : bits .and .u16 a (mask w) = low w a := u16_mask hw a ha0 ha1
  have hB : bits .and .u16 b (mask w) = low w b := u16_mask hw b hb0 hb1
  obtain ⟨bA0, bA1, bA2⟩ := low_bd hw a
  obtain ⟨bB0, bB1, bB2⟩ := low_bd hw b
  obtain ⟨hm0, hm1⟩ := mask_bd hw
  have hR : bits .and .i64 (wrap64 (low w a * low w b)) (mask w) = (low w a * low w b) % pw w := by rw [i64_mask hw, wrap64_mod hw]
  obtain ⟨q0, q1, _⟩ := mod_bd hw (low w a * low w b)
  go_enter Try.func11, Try.ntmps11
  go_wp2_with (first | (go_at_call 14; refine (rmay_yes w _ hw).mono ?_; rintro e w' ⟨rfl, rfl⟩) | (go_at_call 16; refine (rmask_yes w _ hw).mono ?_; rintro e w' ⟨rfl, rfl⟩) | (go_at_call 25; refine (rbit_any _ _).mono ?_; rintro e w' ⟨rfl, rfl⟩))
  go_ret2
  exact ⟨rfl, rfl⟩
theorem rdo_10z (w a b : Int) (W : World) (hw : mayw w) (ha0 : 0 ≤ a) (ha1 : a ≤ 65535) (hb0 : 0 ≤ b) (hb1 : b ≤ 65535) (hc : low w b = 0) :
    Calls Try.prog 11 #[.int .i64 10, .int .i64 w, .int .u16 a, .int .u16 b] W fun e W' => e = .returned (.tuple #[.int .u16 (mask w), .int .i64 0]) ∧ W = W' := by
  have hA : bits .and .u16 a (mask w) = low w a := u16_mask hw a ha0 ha1
  have hB : bits .and .u16 b (mask w) = low w b := u16_mask hw b hb0 hb1
  obtain ⟨bA0, bA1, bA2⟩ := low_bd hw a
  obtain ⟨bB0, bB1, bB2⟩ := low_bd hw b
  obtain ⟨hm0, hm1⟩ := mask_bd hw
  clear bB0 bB1 bB2
  go_enter Try.func11, Try.ntmps11
  go_wp2_with (first | (go_at_call 14; refine (rmay_yes w _ hw).mono ?_; rintro e w' ⟨rfl, rfl⟩) | (go_at_call 16; refine (rmask_yes w _ hw).mono ?_; rintro e w' ⟨rfl, rfl⟩) | (go_at_call 25; refine (rbit_any _ _).mono ?_; rintro e w' ⟨rfl, rfl⟩))
  go_ret2
  exact ⟨rfl, rfl⟩
theorem rdo_11z (w a b : Int) (W : World) (hw : mayw w) (ha0 : 0 ≤ a) (ha1 : a ≤ 65535) (hb0 : 0 ≤ b) (hb1 : b ≤ 65535) (hc : low w b = 0) :
    Calls Try.prog 11 #[.int .i64 11, .int .i64 w, .int .u16 a, .int .u16 b] W fun e W' => e = .returned (.tuple #[.int .u16 (low w a), .int .i64 0]) ∧ W = W' := by
  have hA : bits .and .u16 a (mask w) = low w a := u16_mask hw a ha0 ha1
  have hB : bits .and .u16 b (mask w) = low w b := u16_mask hw b hb0 hb1
  obtain ⟨bA0, bA1, bA2⟩ := low_bd hw a
  obtain ⟨bB0, bB1, bB2⟩ := low_bd hw b
  obtain ⟨hm0, hm1⟩ := mask_bd hw
  clear bB0 bB1 bB2
  go_enter Try.func11, Try.ntmps11
  go_wp2_with (first | (go_at_call 14; refine (rmay_yes w _ hw).mono ?_; rintro e w' ⟨rfl, rfl⟩) | (go_at_call 16; refine (rmask_yes w _ hw).mono ?_; rintro e w' ⟨rfl, rfl⟩) | (go_at_call 25; refine (rbit_any _ _).mono ?_; rintro e w' ⟨rfl, rfl⟩))
  go_ret2
  exact ⟨rfl, rfl⟩
theorem rdo_10n (w a b : Int) (W : World) (hw : mayw w) (ha0 : 0 ≤ a) (ha1 : a ≤ 65535) (hb0 : 0 ≤ b) (hb1 : b ≤ 65535) (hc : ¬ low w b = 0) :
    Calls Try.prog 11 #[.int .i64 10, .int .i64 w, .int .u16 a, .int .u16 b] W fun e W' => e = .returned (.tuple #[.int .u16 (low w a / low w b), .int .i64 0]) ∧ W = W' := by
  have hA : bits .and .u16 a (mask w) = low w a := u16_mask hw a ha0 ha1
  have hB : bits .and .u16 b (mask w) = low w b := u16_mask hw b hb0 hb1
  obtain ⟨bA0, bA1, bA2⟩ := low_bd hw a
  obtain ⟨bB0, bB1, bB2⟩ := low_bd hw b
  obtain ⟨hm0, hm1⟩ := mask_bd hw
  have hz : (low w b == 0) = false := by simpa using hc
  have hy : 1 ≤ low w b := by omega
  have hq := IntWalk.tdiv_le (low w a) (low w b) bA0 (by omega)
  obtain ⟨q0, q1⟩ := hq
  go_enter Try.func11, Try.ntmps11
  go_wp2_with (first | (go_at_call 14; refine (rmay_yes w _ hw).mono ?_; rintro e w' ⟨rfl, rfl⟩) | (go_at_call 16; refine (rmask_yes w _ hw).mono ?_; rintro e w' ⟨rfl, rfl⟩) | (go_at_call 25; refine (rbit_any _ _).mono ?_; rintro e w' ⟨rfl, rfl⟩))
  go_ret2
  exact ⟨rfl, rfl⟩
theorem rdo_11n (w a b : Int) (W : World) (hw : mayw w) (ha0 : 0 ≤ a) (ha1 : a ≤ 65535) (hb0 : 0 ≤ b) (hb1 : b ≤ 65535) (hc : ¬ low w b = 0) :
    Calls Try.prog 11 #[.int .i64 11, .int .i64 w, .int .u16 a, .int .u16 b] W fun e W' => e = .returned (.tuple #[.int .u16 (low w a % low w b), .int .i64 0]) ∧ W = W' := by
  have hA : bits .and .u16 a (mask w) = low w a := u16_mask hw a ha0 ha1
  have hB : bits .and .u16 b (mask w) = low w b := u16_mask hw b hb0 hb1
  obtain ⟨bA0, bA1, bA2⟩ := low_bd hw a
  obtain ⟨bB0, bB1, bB2⟩ := low_bd hw b
  obtain ⟨hm0, hm1⟩ := mask_bd hw
  have hz : (low w b == 0) = false := by simpa using hc
  have q0 := Int.emod_nonneg (low w a) hc
  have q1 := Int.emod_lt_of_pos (low w a) (b := low w b) (by omega)
  go_enter Try.func11, Try.ntmps11
  go_wp2_with (first | (go_at_call 14; refine (rmay_yes w _ hw).mono ?_; rintro e w' ⟨rfl, rfl⟩) | (go_at_call 16; refine (rmask_yes w _ hw).mono ?_; rintro e w' ⟨rfl, rfl⟩) | (go_at_call 25; refine (rbit_any _ _).mono ?_; rintro e w' ⟨rfl, rfl⟩))
  go_ret2
  exact ⟨rfl, rfl⟩
theorem rdo_12f (w a b : Int) (W : World) (hw : mayw w) (ha0 : 0 ≤ a) (ha1 : a ≤ 65535) (hb0 : 0 ≤ b) (hb1 : b ≤ 65535) (hc : w ≤ low w b) :
    Calls Try.prog 11 #[.int .i64 12, .int .i64 w, .int .u16 a, .int .u16 b] W fun e W' => e = .returned (.tuple #[.int .u16 (0), .int .i64 0]) ∧ W = W' := by
  have hA : bits .and .u16 a (mask w) = low w a := u16_mask hw a ha0 ha1
  have hB : bits .and .u16 b (mask w) = low w b := u16_mask hw b hb0 hb1
  obtain ⟨bA0, bA1, bA2⟩ := low_bd hw a
  obtain ⟨bB0, bB1, bB2⟩ := low_bd hw b
  obtain ⟨hm0, hm1⟩ := mask_bd hw
  go_enter Try.func11, Try.ntmps11
  go_wp2_with (first | (go_at_call 14; refine (rmay_yes w _ hw).mono ?_; rintro e w' ⟨rfl, rfl⟩) | (go_at_call 16; refine (rmask_yes w _ hw).mono ?_; rintro e w' ⟨rfl, rfl⟩) | (go_at_call 25; refine (rbit_any _ _).mono ?_; rintro e w' ⟨rfl, rfl⟩))
  go_ret2
  exact ⟨rfl, rfl⟩
theorem rdo_13f (w a b : Int) (W : World) (hw : mayw w) (ha0 : 0 ≤ a) (ha1 : a ≤ 65535) (hb0 : 0 ≤ b) (hb1 : b ≤ 65535) (hc : w ≤ low w b) :
    Calls Try.prog 11 #[.int .i64 13, .int .i64 w, .int .u16 a, .int .u16 b] W fun e W' => e = .returned (.tuple #[.int .u16 (0), .int .i64 0]) ∧ W = W' := by
  have hA : bits .and .u16 a (mask w) = low w a := u16_mask hw a ha0 ha1
  have hB : bits .and .u16 b (mask w) = low w b := u16_mask hw b hb0 hb1
  obtain ⟨bA0, bA1, bA2⟩ := low_bd hw a
  obtain ⟨bB0, bB1, bB2⟩ := low_bd hw b
  obtain ⟨hm0, hm1⟩ := mask_bd hw
  go_enter Try.func11, Try.ntmps11
  go_wp2_with (first | (go_at_call 14; refine (rmay_yes w _ hw).mono ?_; rintro e w' ⟨rfl, rfl⟩) | (go_at_call 16; refine (rmask_yes w _ hw).mono ?_; rintro e w' ⟨rfl, rfl⟩) | (go_at_call 25; refine (rbit_any _ _).mono ?_; rintro e w' ⟨rfl, rfl⟩))
  go_ret2
  exact ⟨rfl, rfl⟩
theorem rdo_12n (w a b : Int) (W : World) (hw : mayw w) (ha0 : 0 ≤ a) (ha1 : a ≤ 65535) (hb0 : 0 ≤ b) (hb1 : b ≤ 65535) (hc : low w b < w) :
    Calls Try.prog 11 #[.int .i64 12, .int .i64 w, .int .u16 a, .int .u16 b] W fun e W' => e = .returned (.tuple #[.int .u16 (low w a * 2 ^ (low w b).toNat % pw w), .int .i64 0]) ∧ W = W' := by
  have hA : bits .and .u16 a (mask w) = low w a := u16_mask hw a ha0 ha1
  have hB : bits .and .u16 b (mask w) = low w b := u16_mask hw b hb0 hb1
  obtain ⟨bA0, bA1, bA2⟩ := low_bd hw a
  obtain ⟨bB0, bB1, bB2⟩ := low_bd hw b
  obtain ⟨hm0, hm1⟩ := mask_bd hw
  have hw16 : w ≤ 16 := by rcases hw with rfl | rfl | rfl <;> omega
  have hR : bits .and .i64 (wrap64 (low w a * 2 ^ (low w b).toNat)) (mask w) = (low w a * 2 ^ (low w b).toNat) % pw w := by rw [i64_mask hw, wrap64_mod hw]
  obtain ⟨q0, q1, _⟩ := mod_bd hw (low w a * 2 ^ (low w b).toNat)
  go_enter Try.func11, Try.ntmps11
  go_wp2_with (first | (go_at_call 14; refine (rmay_yes w _ hw).mono ?_; rintro e w' ⟨rfl, rfl⟩) | (go_at_call 16; refine (rmask_yes w _ hw).mono ?_; rintro e w' ⟨rfl, rfl⟩) | (go_at_call 25; refine (rbit_any _ _).mono ?_; rintro e w' ⟨rfl, rfl⟩))
  go_ret2
  exact ⟨rfl, rfl⟩
theorem rdo_13n (w a b : Int) (W : World) (hw : mayw w) (ha0 : 0 ≤ a) (ha1 : a ≤ 65535) (hb0 : 0 ≤ b) (hb1 : b ≤ 65535) (hc : low w b < w) :
    Calls Try.prog 11 #[.int .i64 13, .int .i64 w, .int .u16 a, .int .u16 b] W fun e W' => e = .returned (.tuple #[.int .u16 (low w a / 2 ^ (low w b).toNat), .int .i64 0]) ∧ W = W' := by
  have hA : bits .and .u16 a (mask w) = low w a := u16_mask hw a ha0 ha1
  have hB : bits .and .u16 b (mask w) = low w b := u16_mask hw b hb0 hb1
  obtain ⟨bA0, bA1, bA2⟩ := low_bd hw a
  obtain ⟨bB0, bB1, bB2⟩ := low_bd hw b
  obtain ⟨hm0, hm1⟩ := mask_bd hw
  have hw16 : w ≤ 16 := by rcases hw with rfl | rfl | rfl <;> omega
  obtain ⟨q0, q1⟩ := shr_bd (low w a) (low w b).toNat bA0
  go_enter Try.func11, Try.ntmps11
  go_wp2_with (first | (go_at_call 14; refine (rmay_yes w _ hw).mono ?_; rintro e w' ⟨rfl, rfl⟩) | (go_at_call 16; refine (rmask_yes w _ hw).mono ?_; rintro e w' ⟨rfl, rfl⟩) | (go_at_call 25; refine (rbit_any _ _).mono ?_; rintro e w' ⟨rfl, rfl⟩))
  go_ret2
  exact ⟨rfl, rfl⟩
theorem rdo_14 (w a b : Int) (W : World) (hw : mayw w) (ha0 : 0 ≤ a) (ha1 : a ≤ 65535) (hb0 : 0 ≤ b) (hb1 : b ≤ 65535) :
    Calls Try.prog 11 #[.int .i64 14, .int .i64 w, .int .u16 a, .int .u16 b] W fun e W' => e = .returned (.tuple #[.int .u16 (bitV (low w a == low w b)), .int .i64 0]) ∧ W = W' := by
  have hA : bits .and .u16 a (mask w) = low w a := u16_mask hw a ha0 ha1
  have hB : bits .and .u16 b (mask w) = low w b := u16_mask hw b hb0 hb1
  obtain ⟨bA0, bA1, bA2⟩ := low_bd hw a
  obtain ⟨bB0, bB1, bB2⟩ := low_bd hw b
  obtain ⟨hm0, hm1⟩ := mask_bd hw
  go_enter Try.func11, Try.ntmps11
  go_wp2_with (first | (go_at_call 14; refine (rmay_yes w _ hw).mono ?_; rintro e w' ⟨rfl, rfl⟩) | (go_at_call 16; refine (rmask_yes w _ hw).mono ?_; rintro e w' ⟨rfl, rfl⟩) | (go_at_call 25; refine (rbit_any _ _).mono ?_; rintro e w' ⟨rfl, rfl⟩))
  go_ret2
  exact ⟨rfl, rfl⟩
theorem rdo_15 (w a b : Int) (W : World) (hw : mayw w) (ha0 : 0 ≤ a) (ha1 : a ≤ 65535) (hb0 : 0 ≤ b) (hb1 : b ≤ 65535) :
    Calls Try.prog 11 #[.int .i64 15, .int .i64 w, .int .u16 a, .int .u16 b] W fun e W' => e = .returned (.tuple #[.int .u16 (bitV (decide (low w a < low w b))), .int .i64 0]) ∧ W = W' := by
  have hA : bits .and .u16 a (mask w) = low w a := u16_mask hw a ha0 ha1
  have hB : bits .and .u16 b (mask w) = low w b := u16_mask hw b hb0 hb1
  obtain ⟨bA0, bA1, bA2⟩ := low_bd hw a
  obtain ⟨bB0, bB1, bB2⟩ := low_bd hw b
  obtain ⟨hm0, hm1⟩ := mask_bd hw
  go_enter Try.func11, Try.ntmps11
  go_wp2_with (first | (go_at_call 14; refine (rmay_yes w _ hw).mono ?_; rintro e w' ⟨rfl, rfl⟩) | (go_at_call 16; refine (rmask_yes w _ hw).mono ?_; rintro e w' ⟨rfl, rfl⟩) | (go_at_call 25; refine (rbit_any _ _).mono ?_; rintro e w' ⟨rfl, rfl⟩))
  go_ret2
  exact ⟨rfl, rfl⟩
theorem rdo_yes (op w a b : Int) (W : World) (hw : mayw w) (h0 : 3 ≤ op) (h1 : op ≤ 15) (ha0 : 0 ≤ a) (ha1 : a ≤ 65535) (hb0 : 0 ≤ b) (hb1 : b ≤ 65535) :
    Calls Try.prog 11 #[.int .i64 op, .int .i64 w, .int .u16 a, .int .u16 b] W fun e W' => e = .returned (.tuple #[.int .u16 (doM op w (low w a) (low w b)), .int .i64 0]) ∧ W = W' := by
  have h : op = 3 ∨ op = 4 ∨ op = 5 ∨ op = 6 ∨ op = 7 ∨ op = 8 ∨ op = 9 ∨ op = 10 ∨ op = 11 ∨ op = 12 ∨ op = 13 ∨ op = 14 ∨ op = 15 := by omega
  have la := low_bd hw a
  have lb := low_bd hw b
  clear h0 h1
  rcases h with rfl | rfl | rfl | rfl | rfl | rfl | rfl | rfl | rfl | rfl | rfl | rfl | rfl
  · exact rdo_3 w a b W hw ha0 ha1 hb0 hb1
  · exact rdo_4 w a b W hw ha0 ha1 hb0 hb1
  · exact rdo_5 w a b W hw ha0 ha1 hb0 hb1
  · exact rdo_6 w a b W hw ha0 ha1 hb0 hb1
  · exact rdo_7 w a b W hw ha0 ha1 hb0 hb1
  · exact rdo_8 w a b W hw ha0 ha1 hb0 hb1
  · exact rdo_9 w a b W hw ha0 ha1 hb0 hb1
  · by_cases hc : low w b = 0
    · have e : doM 10 w (low w a) (low w b) = mask w := by simp [doM, hc]
      rw [e]; exact rdo_10z w a b W hw ha0 ha1 hb0 hb1 hc
    · have e : doM 10 w (low w a) (low w b) = low w a / low w b := by simp [doM, hc]
      rw [e]; exact rdo_10n w a b W hw ha0 ha1 hb0 hb1 hc
  · by_cases hc : low w b = 0
    · have e : doM 11 w (low w a) (low w b) = low w a := by simp [doM, hc]
      rw [e]; exact rdo_11z w a b W hw ha0 ha1 hb0 hb1 hc
    · have e : doM 11 w (low w a) (low w b) = low w a % low w b := by simp [doM, hc]
      rw [e]; exact rdo_11n w a b W hw ha0 ha1 hb0 hb1 hc
  · have e : doM 12 w (low w a) (low w b) = low w a * 2 ^ (low w b).toNat % pw w := by simp [doM]
    by_cases hc : w ≤ low w b
    · rw [e, shl_far hw _ _ (by omega)]; exact rdo_12f w a b W hw ha0 ha1 hb0 hb1 hc
    · rw [e]; exact rdo_12n w a b W hw ha0 ha1 hb0 hb1 (by omega)
  · have e : doM 13 w (low w a) (low w b) = low w a / 2 ^ (low w b).toNat := by simp [doM]
    by_cases hc : w ≤ low w b
    · rw [e, shr_far hw _ _ (by omega) la.1 la.2.2]; exact rdo_13f w a b W hw ha0 ha1 hb0 hb1 hc
    · rw [e]; exact rdo_13n w a b W hw ha0 ha1 hb0 hb1 (by omega)
  · exact rdo_14 w a b W hw ha0 ha1 hb0 hb1
  · exact rdo_15 w a b W hw ha0 ha1 hb0 hb1
theorem rdo_width (op w a b : Int) (W : World) (hw : ¬ mayw w) :
    Calls Try.prog 11 #[.int .i64 op, .int .i64 w, .int .u16 a, .int .u16 b] W fun e W' => e = .returned (.tuple #[.int .u16 0, .int .i64 2]) ∧ W = W' := by
  go_enter Try.func11, Try.ntmps11
  go_wp2_with (go_at_call 14; refine (rmay_no w _ hw).mono ?_; rintro e w' ⟨rfl, rfl⟩)
  go_ret2
  exact ⟨rfl, rfl⟩
theorem rdo_op (op w a b : Int) (W : World) (hw : mayw w) (ho : ¬ (3 ≤ op ∧ op ≤ 15)) (ha0 : 0 ≤ a) (ha1 : a ≤ 65535) (hb0 : 0 ≤ b) (hb1 : b ≤ 65535) :
    Calls Try.prog 11 #[.int .i64 op, .int .i64 w, .int .u16 a, .int .u16 b] W fun e W' => e = .returned (.tuple #[.int .u16 0, .int .i64 5]) ∧ W = W' := by
  have hA : bits .and .u16 a (mask w) = low w a := u16_mask hw a ha0 ha1
  have hB : bits .and .u16 b (mask w) = low w b := u16_mask hw b hb0 hb1
  obtain ⟨bA0, bA1, bA2⟩ := low_bd hw a
  obtain ⟨bB0, bB1, bB2⟩ := low_bd hw b
  have t3 : (op == 3) = false := by simp; omega
  have t4 : (op == 4) = false := by simp; omega
  have t5 : (op == 5) = false := by simp; omega
  have t6 : (op == 6) = false := by simp; omega
  have t7 : (op == 7) = false := by simp; omega
  have t8 : (op == 8) = false := by simp; omega
  have t9 : (op == 9) = false := by simp; omega
  have t10 : (op == 10) = false := by simp; omega
  have t11 : (op == 11) = false := by simp; omega
  have t12 : (op == 12) = false := by simp; omega
  have t13 : (op == 13) = false := by simp; omega
  have t14 : (op == 14) = false := by simp; omega
  have t15 : (op == 15) = false := by simp; omega
  clear ho
  go_enter Try.func11, Try.ntmps11
  go_wp2_with (first | (go_at_call 14; refine (rmay_yes w _ hw).mono ?_; rintro e w' ⟨rfl, rfl⟩) | (go_at_call 16; refine (rmask_yes w _ hw).mono ?_; rintro e w' ⟨rfl, rfl⟩) | (go_at_call 25; refine (rbit_any _ _).mono ?_; rintro e w' ⟨rfl, rfl⟩))
  go_ret2
  exact ⟨rfl, rfl⟩
end Go.Proofs.Ythnhllodjlafcaa
