/-
  The law InstNames: calls, jumps and ends are told apart by their numbers: whatever is not in the table takes and gives nothing. No condition.
-/
import Derived.Test.YtdpnbacjlfbfjaaInstE
import Derived.ProofKit
import Derived.Deep.QuietTactic
import Derived.BigQuiet
import Derived.OpenShut
namespace Go.Proofs.Ytdpnbacjlfbfjaa.instNames
open Go.ChangeShapes Go.WideShapes Go.ChangeAt Go.RowKit
set_option linter.unusedVariables false

theorem own : ownKnob Try.prog.godebug = none := by kernel_rfl

theorem names_ok (k : Nat) (h1 : 1 ≤ k) (hk : k < 42) : (fallsB k = true → gv k = 1 ∧ jumpsB k = false ∧ endsB k = false) ∧ 0 ≤ ms k ∧ ms k ≤ 65535 ∧ (27 ≤ k → gv k = 1) := by
  have all : ∀ j : Fin 42, 1 ≤ j.val → (fallsB j.val = true → gv j.val = 1 ∧ jumpsB j.val = false ∧ endsB j.val = false) ∧ 0 ≤ ms j.val ∧ ms j.val ≤ 65535 ∧ (27 ≤ j.val → gv j.val = 1) := by decide +kernel
  exact all ⟨k, hk⟩ h1
theorem low_no (k : Int) (h : ¬ (1 ≤ k ∧ k < 42)) : jumpsB k = false ∧ endsB k = false ∧ fallsB k = false := by
  simp [jumpsB, endsB, fallsB]
  omega

set_option maxHeartbeats 8000000 in
theorem walk (a0 : Int) (a1 : Int) (w0 : (Lit.int .i64 a0).wf = true) (w1 : (Lit.int .i64 a1).wf = true) (w : World) :
    Calls Try.prog 5 #[.int .i64 a0, .int .i64 a1] w fun e w' => e = .returned (.bool true) ∧ Grown w w' := by
  have hn : ∀ b w, (Op.unary .not (.bool b)).run Try.prog w = .ok (.bool (!b)) w := fun _ _ => rfl
  have hb := build_inst
  have hb0 := build_inst0
  have GT := Grown.refl w
  by_cases hin : 1 ≤ a0 ∧ a0 < 42
  · obtain ⟨k, rfl⟩ : ∃ k : Nat, a0 = k := ⟨a0.toNat, by omega⟩
    have k1 : 1 ≤ k := by omega
    have k2 : k < 42 := by omega
    have c1 : (1 : Int) ≤ k := by omega
    have c2 : (k : Int) ≤ 41 := by omega
    obtain ⟨q1, q2, q3, q4⟩ := names_ok k k1 k2
    have m0 := may_yes k 0 k1 k2
    have m1 := may_yes k a1 k1 k2
    have e2 := gives_yes k k1 k2
    have e3 := falls_any (k : Int)
    have e4 := jumps_any (k : Int)
    have e5 := ends_any (k : Int)
    have q5 : mayB k 0 = true := by simp [mayB, q2]
    have q6 : mayB k a1 = true → 0 ≤ a1 ∧ a1 ≤ 65535 := by
      intro h
      simp [mayB] at h
      omega
    rw [q5] at m0
    generalize mayB k a1 = b4 at *
    generalize fallsB (k : Int) = b1 at *
    generalize jumpsB (k : Int) = b2 at *
    generalize endsB (k : Int) = b3 at *
    generalize gv k = n3 at *
    clear q5 q2 q3
    have cd : (k : Int) < 27 ∨ ¬ (k : Int) < 27 ∧ n3 = 1 := by
      by_cases h : 27 ≤ k
      · exact .inr ⟨by omega, q4 h⟩
      · exact .inl (by omega)
    clear q4 hin
    cases b1
    · clear q1
      cases b4
      · clear q6
        rcases cd with cd | ⟨cd, rfl⟩
        · go_enter Try.func5, Try.ntmps5
          go_wp2_with (go_at_call 7; with_reducible refine (awake9_any _).mono ?_; rintro e w' ⟨rfl, G1⟩; have GT := grown_trans GT G1)
          rw [set_two]
          have HR := heap_alloc_new w' (.cells #[.int .i64 (k : Int), .int .i64 a1] 23)
          have GT := grown_trans GT ((Grown.refl w').alloc #[.int .i64 (k : Int), .int .i64 a1] 23)
          generalize w'.alloc (.cells #[.int .i64 (k : Int), .int .i64 a1] 23) = W2 at *
          obtain ⟨d0, d1, f0, f1⟩ := two_cells HR
          go_wp2_with (first | (go_at_call 9; with_reducible refine (m0 _).mono ?_; rintro e w' ⟨rfl, G1⟩; have GT := grown_trans GT G1; have HR := grown_row G1 HR; obtain ⟨d0, d1, f0, f1⟩ := two_cells HR) | (go_at_call 9; with_reducible refine (m1 _).mono ?_; rintro e w' ⟨rfl, G1⟩; have GT := grown_trans GT G1; have HR := grown_row G1 HR; obtain ⟨d0, d1, f0, f1⟩ := two_cells HR) | (go_at_call 13; with_reducible refine (e2 _).mono ?_; rintro e w' ⟨rfl, G1⟩; have GT := grown_trans GT G1; have HR := grown_row G1 HR; obtain ⟨d0, d1, f0, f1⟩ := two_cells HR) | (go_at_call 16; with_reducible refine (e3 _).mono ?_; rintro e w' ⟨rfl, rfl⟩) | (go_at_call 14; with_reducible refine (e4 _).mono ?_; rintro e w' ⟨rfl, rfl⟩) | (go_at_call 15; with_reducible refine (e5 _).mono ?_; rintro e w' ⟨rfl, rfl⟩))
          go_ret
          exact ⟨rfl, GT⟩
        · go_enter Try.func5, Try.ntmps5
          go_wp2_with (go_at_call 7; with_reducible refine (awake9_any _).mono ?_; rintro e w' ⟨rfl, G1⟩; have GT := grown_trans GT G1)
          rw [set_two]
          have HR := heap_alloc_new w' (.cells #[.int .i64 (k : Int), .int .i64 a1] 23)
          have GT := grown_trans GT ((Grown.refl w').alloc #[.int .i64 (k : Int), .int .i64 a1] 23)
          generalize w'.alloc (.cells #[.int .i64 (k : Int), .int .i64 a1] 23) = W2 at *
          obtain ⟨d0, d1, f0, f1⟩ := two_cells HR
          go_wp2_with (first | (go_at_call 9; with_reducible refine (m0 _).mono ?_; rintro e w' ⟨rfl, G1⟩; have GT := grown_trans GT G1; have HR := grown_row G1 HR; obtain ⟨d0, d1, f0, f1⟩ := two_cells HR) | (go_at_call 9; with_reducible refine (m1 _).mono ?_; rintro e w' ⟨rfl, G1⟩; have GT := grown_trans GT G1; have HR := grown_row G1 HR; obtain ⟨d0, d1, f0, f1⟩ := two_cells HR) | (go_at_call 13; with_reducible refine (e2 _).mono ?_; rintro e w' ⟨rfl, G1⟩; have GT := grown_trans GT G1; have HR := grown_row G1 HR; obtain ⟨d0, d1, f0, f1⟩ := two_cells HR) | (go_at_call 16; with_reducible refine (e3 _).mono ?_; rintro e w' ⟨rfl, rfl⟩) | (go_at_call 14; with_reducible refine (e4 _).mono ?_; rintro e w' ⟨rfl, rfl⟩) | (go_at_call 15; with_reducible refine (e5 _).mono ?_; rintro e w' ⟨rfl, rfl⟩))
          go_ret
          exact ⟨rfl, GT⟩
      · obtain ⟨r1, r2⟩ := q6 rfl
        clear q6
        rcases cd with cd | ⟨cd, rfl⟩
        · go_enter Try.func5, Try.ntmps5
          go_wp2_with (go_at_call 7; with_reducible refine (awake9_any _).mono ?_; rintro e w' ⟨rfl, G1⟩; have GT := grown_trans GT G1)
          rw [set_two]
          have HR := heap_alloc_new w' (.cells #[.int .i64 (k : Int), .int .i64 a1] 23)
          have GT := grown_trans GT ((Grown.refl w').alloc #[.int .i64 (k : Int), .int .i64 a1] 23)
          generalize w'.alloc (.cells #[.int .i64 (k : Int), .int .i64 a1] 23) = W2 at *
          obtain ⟨d0, d1, f0, f1⟩ := two_cells HR
          go_wp2_with (first | (go_at_call 9; with_reducible refine (m0 _).mono ?_; rintro e w' ⟨rfl, G1⟩; have GT := grown_trans GT G1; have HR := grown_row G1 HR; obtain ⟨d0, d1, f0, f1⟩ := two_cells HR) | (go_at_call 9; with_reducible refine (m1 _).mono ?_; rintro e w' ⟨rfl, G1⟩; have GT := grown_trans GT G1; have HR := grown_row G1 HR; obtain ⟨d0, d1, f0, f1⟩ := two_cells HR) | (go_at_call 13; with_reducible refine (e2 _).mono ?_; rintro e w' ⟨rfl, G1⟩; have GT := grown_trans GT G1; have HR := grown_row G1 HR; obtain ⟨d0, d1, f0, f1⟩ := two_cells HR) | (go_at_call 16; with_reducible refine (e3 _).mono ?_; rintro e w' ⟨rfl, rfl⟩) | (go_at_call 14; with_reducible refine (e4 _).mono ?_; rintro e w' ⟨rfl, rfl⟩) | (go_at_call 15; with_reducible refine (e5 _).mono ?_; rintro e w' ⟨rfl, rfl⟩))
          go_ret
          exact ⟨rfl, GT⟩
        · go_enter Try.func5, Try.ntmps5
          go_wp2_with (go_at_call 7; with_reducible refine (awake9_any _).mono ?_; rintro e w' ⟨rfl, G1⟩; have GT := grown_trans GT G1)
          rw [set_two]
          have HR := heap_alloc_new w' (.cells #[.int .i64 (k : Int), .int .i64 a1] 23)
          have GT := grown_trans GT ((Grown.refl w').alloc #[.int .i64 (k : Int), .int .i64 a1] 23)
          generalize w'.alloc (.cells #[.int .i64 (k : Int), .int .i64 a1] 23) = W2 at *
          obtain ⟨d0, d1, f0, f1⟩ := two_cells HR
          go_wp2_with (first | (go_at_call 9; with_reducible refine (m0 _).mono ?_; rintro e w' ⟨rfl, G1⟩; have GT := grown_trans GT G1; have HR := grown_row G1 HR; obtain ⟨d0, d1, f0, f1⟩ := two_cells HR) | (go_at_call 9; with_reducible refine (m1 _).mono ?_; rintro e w' ⟨rfl, G1⟩; have GT := grown_trans GT G1; have HR := grown_row G1 HR; obtain ⟨d0, d1, f0, f1⟩ := two_cells HR) | (go_at_call 13; with_reducible refine (e2 _).mono ?_; rintro e w' ⟨rfl, G1⟩; have GT := grown_trans GT G1; have HR := grown_row G1 HR; obtain ⟨d0, d1, f0, f1⟩ := two_cells HR) | (go_at_call 16; with_reducible refine (e3 _).mono ?_; rintro e w' ⟨rfl, rfl⟩) | (go_at_call 14; with_reducible refine (e4 _).mono ?_; rintro e w' ⟨rfl, rfl⟩) | (go_at_call 15; with_reducible refine (e5 _).mono ?_; rintro e w' ⟨rfl, rfl⟩))
          go_ret
          exact ⟨rfl, GT⟩
    · obtain ⟨rfl, rfl, rfl⟩ := q1 rfl
      clear q1
      replace cd : (k : Int) < 27 ∨ ¬ (k : Int) < 27 := by omega
      cases b4
      · clear q6
        rcases cd with cd | cd
        · go_enter Try.func5, Try.ntmps5
          go_wp2_with (go_at_call 7; with_reducible refine (awake9_any _).mono ?_; rintro e w' ⟨rfl, G1⟩; have GT := grown_trans GT G1)
          rw [set_two]
          have HR := heap_alloc_new w' (.cells #[.int .i64 (k : Int), .int .i64 a1] 23)
          have GT := grown_trans GT ((Grown.refl w').alloc #[.int .i64 (k : Int), .int .i64 a1] 23)
          generalize w'.alloc (.cells #[.int .i64 (k : Int), .int .i64 a1] 23) = W2 at *
          obtain ⟨d0, d1, f0, f1⟩ := two_cells HR
          go_wp2_with (first | (go_at_call 9; with_reducible refine (m0 _).mono ?_; rintro e w' ⟨rfl, G1⟩; have GT := grown_trans GT G1; have HR := grown_row G1 HR; obtain ⟨d0, d1, f0, f1⟩ := two_cells HR) | (go_at_call 9; with_reducible refine (m1 _).mono ?_; rintro e w' ⟨rfl, G1⟩; have GT := grown_trans GT G1; have HR := grown_row G1 HR; obtain ⟨d0, d1, f0, f1⟩ := two_cells HR) | (go_at_call 13; with_reducible refine (e2 _).mono ?_; rintro e w' ⟨rfl, G1⟩; have GT := grown_trans GT G1; have HR := grown_row G1 HR; obtain ⟨d0, d1, f0, f1⟩ := two_cells HR) | (go_at_call 16; with_reducible refine (e3 _).mono ?_; rintro e w' ⟨rfl, rfl⟩) | (go_at_call 14; with_reducible refine (e4 _).mono ?_; rintro e w' ⟨rfl, rfl⟩) | (go_at_call 15; with_reducible refine (e5 _).mono ?_; rintro e w' ⟨rfl, rfl⟩))
          go_ret
          exact ⟨rfl, GT⟩
        · go_enter Try.func5, Try.ntmps5
          go_wp2_with (go_at_call 7; with_reducible refine (awake9_any _).mono ?_; rintro e w' ⟨rfl, G1⟩; have GT := grown_trans GT G1)
          rw [set_two]
          have HR := heap_alloc_new w' (.cells #[.int .i64 (k : Int), .int .i64 a1] 23)
          have GT := grown_trans GT ((Grown.refl w').alloc #[.int .i64 (k : Int), .int .i64 a1] 23)
          generalize w'.alloc (.cells #[.int .i64 (k : Int), .int .i64 a1] 23) = W2 at *
          obtain ⟨d0, d1, f0, f1⟩ := two_cells HR
          go_wp2_with (first | (go_at_call 9; with_reducible refine (m0 _).mono ?_; rintro e w' ⟨rfl, G1⟩; have GT := grown_trans GT G1; have HR := grown_row G1 HR; obtain ⟨d0, d1, f0, f1⟩ := two_cells HR) | (go_at_call 9; with_reducible refine (m1 _).mono ?_; rintro e w' ⟨rfl, G1⟩; have GT := grown_trans GT G1; have HR := grown_row G1 HR; obtain ⟨d0, d1, f0, f1⟩ := two_cells HR) | (go_at_call 13; with_reducible refine (e2 _).mono ?_; rintro e w' ⟨rfl, G1⟩; have GT := grown_trans GT G1; have HR := grown_row G1 HR; obtain ⟨d0, d1, f0, f1⟩ := two_cells HR) | (go_at_call 16; with_reducible refine (e3 _).mono ?_; rintro e w' ⟨rfl, rfl⟩) | (go_at_call 14; with_reducible refine (e4 _).mono ?_; rintro e w' ⟨rfl, rfl⟩) | (go_at_call 15; with_reducible refine (e5 _).mono ?_; rintro e w' ⟨rfl, rfl⟩))
          go_ret
          exact ⟨rfl, GT⟩
      · obtain ⟨r1, r2⟩ := q6 rfl
        clear q6
        rcases cd with cd | cd
        · go_enter Try.func5, Try.ntmps5
          go_wp2_with (go_at_call 7; with_reducible refine (awake9_any _).mono ?_; rintro e w' ⟨rfl, G1⟩; have GT := grown_trans GT G1)
          rw [set_two]
          have HR := heap_alloc_new w' (.cells #[.int .i64 (k : Int), .int .i64 a1] 23)
          have GT := grown_trans GT ((Grown.refl w').alloc #[.int .i64 (k : Int), .int .i64 a1] 23)
          generalize w'.alloc (.cells #[.int .i64 (k : Int), .int .i64 a1] 23) = W2 at *
          obtain ⟨d0, d1, f0, f1⟩ := two_cells HR
          go_wp2_with (first | (go_at_call 9; with_reducible refine (m0 _).mono ?_; rintro e w' ⟨rfl, G1⟩; have GT := grown_trans GT G1; have HR := grown_row G1 HR; obtain ⟨d0, d1, f0, f1⟩ := two_cells HR) | (go_at_call 9; with_reducible refine (m1 _).mono ?_; rintro e w' ⟨rfl, G1⟩; have GT := grown_trans GT G1; have HR := grown_row G1 HR; obtain ⟨d0, d1, f0, f1⟩ := two_cells HR) | (go_at_call 13; with_reducible refine (e2 _).mono ?_; rintro e w' ⟨rfl, G1⟩; have GT := grown_trans GT G1; have HR := grown_row G1 HR; obtain ⟨d0, d1, f0, f1⟩ := two_cells HR) | (go_at_call 16; with_reducible refine (e3 _).mono ?_; rintro e w' ⟨rfl, rfl⟩) | (go_at_call 14; with_reducible refine (e4 _).mono ?_; rintro e w' ⟨rfl, rfl⟩) | (go_at_call 15; with_reducible refine (e5 _).mono ?_; rintro e w' ⟨rfl, rfl⟩))
          go_ret
          exact ⟨rfl, GT⟩
        · go_enter Try.func5, Try.ntmps5
          go_wp2_with (go_at_call 7; with_reducible refine (awake9_any _).mono ?_; rintro e w' ⟨rfl, G1⟩; have GT := grown_trans GT G1)
          rw [set_two]
          have HR := heap_alloc_new w' (.cells #[.int .i64 (k : Int), .int .i64 a1] 23)
          have GT := grown_trans GT ((Grown.refl w').alloc #[.int .i64 (k : Int), .int .i64 a1] 23)
          generalize w'.alloc (.cells #[.int .i64 (k : Int), .int .i64 a1] 23) = W2 at *
          obtain ⟨d0, d1, f0, f1⟩ := two_cells HR
          go_wp2_with (first | (go_at_call 9; with_reducible refine (m0 _).mono ?_; rintro e w' ⟨rfl, G1⟩; have GT := grown_trans GT G1; have HR := grown_row G1 HR; obtain ⟨d0, d1, f0, f1⟩ := two_cells HR) | (go_at_call 9; with_reducible refine (m1 _).mono ?_; rintro e w' ⟨rfl, G1⟩; have GT := grown_trans GT G1; have HR := grown_row G1 HR; obtain ⟨d0, d1, f0, f1⟩ := two_cells HR) | (go_at_call 13; with_reducible refine (e2 _).mono ?_; rintro e w' ⟨rfl, G1⟩; have GT := grown_trans GT G1; have HR := grown_row G1 HR; obtain ⟨d0, d1, f0, f1⟩ := two_cells HR) | (go_at_call 16; with_reducible refine (e3 _).mono ?_; rintro e w' ⟨rfl, rfl⟩) | (go_at_call 14; with_reducible refine (e4 _).mono ?_; rintro e w' ⟨rfl, rfl⟩) | (go_at_call 15; with_reducible refine (e5 _).mono ?_; rintro e w' ⟨rfl, rfl⟩))
          go_ret
          exact ⟨rfl, GT⟩
  · obtain ⟨j1, j2, j3⟩ := low_no a0 hin
    have e3 := falls_any a0
    have e4 := jumps_any a0
    have e5 := ends_any a0
    rw [j3] at e3
    rw [j1] at e4
    rw [j2] at e5
    clear j1 j2 j3
    have cd : ¬ 1 ≤ a0 ∨ 1 ≤ a0 ∧ decide (a0 ≤ 41) = false := by
      by_cases h : 1 ≤ a0
      · exact .inr ⟨h, decide_eq_false (by omega)⟩
      · exact .inl h
    rcases cd with c1 | ⟨c1, c2⟩
    · go_enter Try.func5, Try.ntmps5
      go_wp2_with (go_at_call 7; with_reducible refine (awake9_any _).mono ?_; rintro e w' ⟨rfl, G1⟩; have GT := grown_trans GT G1)
      rw [set_two]
      have HR := heap_alloc_new w' (.cells #[.int .i64 a0, .int .i64 a1] 23)
      have GT := grown_trans GT ((Grown.refl w').alloc #[.int .i64 a0, .int .i64 a1] 23)
      generalize w'.alloc (.cells #[.int .i64 a0, .int .i64 a1] 23) = W2 at *
      obtain ⟨d0, d1, f0, f1⟩ := two_cells HR
      go_wp2_with (first | (go_at_call 9; with_reducible refine (may_no _ _ hin _).mono ?_; rintro e w' ⟨rfl, G1⟩; have GT := grown_trans GT G1; have HR := grown_row G1 HR; obtain ⟨d0, d1, f0, f1⟩ := two_cells HR) | (go_at_call 11; with_reducible refine (name_no _ hin _).mono ?_; rintro e w' ⟨rfl, G1⟩; have GT := grown_trans GT G1; have HR := grown_row G1 HR; obtain ⟨d0, d1, f0, f1⟩ := two_cells HR) | (go_at_call 12; with_reducible refine (takes_no _ hin _).mono ?_; rintro e w' ⟨rfl, G1⟩; have GT := grown_trans GT G1; have HR := grown_row G1 HR; obtain ⟨d0, d1, f0, f1⟩ := two_cells HR) | (go_at_call 13; with_reducible refine (gives_no _ hin _).mono ?_; rintro e w' ⟨rfl, G1⟩; have GT := grown_trans GT G1; have HR := grown_row G1 HR; obtain ⟨d0, d1, f0, f1⟩ := two_cells HR) | (go_at_call 16; with_reducible refine (e3 _).mono ?_; rintro e w' ⟨rfl, rfl⟩) | (go_at_call 14; with_reducible refine (e4 _).mono ?_; rintro e w' ⟨rfl, rfl⟩) | (go_at_call 15; with_reducible refine (e5 _).mono ?_; rintro e w' ⟨rfl, rfl⟩))
      go_ret
      exact ⟨rfl, GT⟩
    · go_enter Try.func5, Try.ntmps5
      go_wp2_with (go_at_call 7; with_reducible refine (awake9_any _).mono ?_; rintro e w' ⟨rfl, G1⟩; have GT := grown_trans GT G1)
      rw [set_two]
      have HR := heap_alloc_new w' (.cells #[.int .i64 a0, .int .i64 a1] 23)
      have GT := grown_trans GT ((Grown.refl w').alloc #[.int .i64 a0, .int .i64 a1] 23)
      generalize w'.alloc (.cells #[.int .i64 a0, .int .i64 a1] 23) = W2 at *
      obtain ⟨d0, d1, f0, f1⟩ := two_cells HR
      go_wp2_with (first | (go_at_call 9; with_reducible refine (may_no _ _ hin _).mono ?_; rintro e w' ⟨rfl, G1⟩; have GT := grown_trans GT G1; have HR := grown_row G1 HR; obtain ⟨d0, d1, f0, f1⟩ := two_cells HR) | (go_at_call 11; with_reducible refine (name_no _ hin _).mono ?_; rintro e w' ⟨rfl, G1⟩; have GT := grown_trans GT G1; have HR := grown_row G1 HR; obtain ⟨d0, d1, f0, f1⟩ := two_cells HR) | (go_at_call 12; with_reducible refine (takes_no _ hin _).mono ?_; rintro e w' ⟨rfl, G1⟩; have GT := grown_trans GT G1; have HR := grown_row G1 HR; obtain ⟨d0, d1, f0, f1⟩ := two_cells HR) | (go_at_call 13; with_reducible refine (gives_no _ hin _).mono ?_; rintro e w' ⟨rfl, G1⟩; have GT := grown_trans GT G1; have HR := grown_row G1 HR; obtain ⟨d0, d1, f0, f1⟩ := two_cells HR) | (go_at_call 16; with_reducible refine (e3 _).mono ?_; rintro e w' ⟨rfl, rfl⟩) | (go_at_call 14; with_reducible refine (e4 _).mono ?_; rintro e w' ⟨rfl, rfl⟩) | (go_at_call 15; with_reducible refine (e5 _).mono ?_; rintro e w' ⟨rfl, rfl⟩))
      go_ret
      exact ⟨rfl, GT⟩

set_option maxRecDepth 100000 in
theorem lifted (os : Os) (started : os.Started) (H : Type) (enc : TypeId × Value → H) :
    ReturnsInHanded {} Try.checked os 5 .any (Rows.instNamesSpec.pre6 enc Try.prog Try.f5 Rows.instNamesRow.domain false) (Rows.instNamesSpec.post enc Try.prog Try.f5 false true false false) := by
  refine returnsInHanded_of_change (C := Try.checked) own started (by kernel_rfl) Try.func5
    (ChangeSpec.witness6 (enc := enc) (C := Try.checked) false ⟨#[], #[.int .i64 0, .int .i64 0], []⟩ 8 (by kernel_rfl) (by kernel_rfl) (by kernel_rfl) (by kernel_rfl)) ?_
  intro W base args ds gs before hval0 hW hcnd _
  have hval : ∀ (j : Nat) t v, Try.f5.params[j]? = some t → args[j]? = some v → Value.okWide Try.prog W .any base t v := hval0
  have hW' := hW
  obtain ⟨p, q, hA0, hV, rfl, hfz, hnd⟩ := hW
  have hA : DataW.TrodAll enc Try.prog W 0 (fun _ => true) true Try.f5.params.toList args.toList ds p := hA0
  rw [Try.params5] at hA hval
  obtain ⟨v0, vs0, d0, ds0, p0, q0, hargs, rfl, rfl, h0, r0⟩ := trodAll_cons hA
  obtain ⟨v1, vs1, d1, ds1, p1, q1, rfl, rfl, rfl, h1, r1⟩ := trodAll_cons r0
  obtain ⟨rfl, rfl, rfl⟩ := trodAll_nil r1
  obtain rfl : args = #[v0, v1] := by cases args; simp_all
  obtain ⟨rfl, rfl⟩ := trodVars_none hV
  obtain ⟨a0, rfl, rfl, rfl, w0⟩ := open_int Try.underlying3 (hval 0 3 v0 rfl rfl) h0
  obtain ⟨a1, rfl, rfl, rfl, w1⟩ := open_int Try.underlying3 (hval 1 3 v1 rfl rfl) h1
  clear hA0 hval0
  simp only [List.append_nil] at hW'
  refine (walk a0 a1 w0 w1 W).mono fun e W' ⟨he, hg⟩ => ?_
  subst he
  exact ⟨_, rfl, post_of_same (pa := []) (pv := []) hW' (fun _ _ _ => (trodAll_cons_mk (shut_bool Try.underlying4 _) trodAll_mk0)) (fun sp _ => (trodAll_cons_mk (shut_int Try.underlying3 w0) (trodAll_cons_mk (shut_int Try.underlying3 w1) trodAll_mk0))) (fun _ _ => rfl) rfl
    (hg.frame _) hg.2.1 (ok_one (by kernel_rfl) rfl (okWide_bool_mk Try.underlying4 _))⟩

theorem over : Rows.instNamesRow.holds Try.pinned (OpenSpec.ofChange Rows.instNamesSpec) :=
  OpenClaim.holds_of_wide 5 Try.f5 rfl rfl rfl rfl rfl rfl rfl ⟨rfl, rfl, rfl, rfl, rfl⟩ rfl rfl rfl rfl rfl (by kernel_rfl) Try.func5 (by kernel_rfl)
    (of_decide_eq_true (by kernel_rfl)) (by unfold Func.isWrapper; first | (rw [if_pos (by decide +kernel)]; kernel_rfl) | (rw [if_neg (by decide +kernel)]; exact ⟨rfl, rfl⟩))
    (fun os started H enc _ => lifted os started H enc)

theorem proved : Rows.InstNamesSaid :=
  over
#print axioms proved
end Go.Proofs.Ytdpnbacjlfbfjaa.instNames
