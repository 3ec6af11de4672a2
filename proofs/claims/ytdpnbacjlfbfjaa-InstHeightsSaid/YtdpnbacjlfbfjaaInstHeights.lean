/-
  The law InstHeights: whatever an instruction takes and gives, the stack never grows by more than one. No condition.
-/
import Derived.Test.YtdpnbacjlfbfjaaInstE
import Derived.ProofKit
import Derived.Deep.QuietTactic
import Derived.BigQuiet
import Derived.OpenShut
namespace Go.Proofs.Ytdpnbacjlfbfjaa.instHeights
open Go.ChangeShapes Go.WideShapes Go.ChangeAt Go.RowKit
set_option linter.unusedVariables false

theorem own : ownKnob Try.prog.godebug = none := by kernel_rfl

theorem heights (k : Nat) (h1 : 1 ≤ k) (hk : k < 42) : 0 ≤ tk k ∧ 0 ≤ gv k ∧ gv k - tk k ≤ 1 ∧ tk k - gv k ≤ 2 ∧ ((endsB k = true ∨ jumpsB k = true) → gv k = 0) := by
  have all : ∀ j : Fin 42, 0 ≤ tk j.val ∧ 0 ≤ gv j.val ∧ gv j.val - tk j.val ≤ 1 ∧ tk j.val - gv j.val ≤ 2 ∧ ((endsB j.val = true ∨ jumpsB j.val = true) → gv j.val = 0) := by decide +kernel
  exact all ⟨k, hk⟩

set_option maxHeartbeats 2000000 in
theorem walk (a0 : Int) (w0 : (Lit.int .i64 a0).wf = true) (w : World) :
    Calls Try.prog 6 #[.int .i64 a0] w fun e w' => e = .returned (.bool true) ∧ Grown w w' := by
  have hn1 : ∀ w, (Op.unary .not (.bool true)).run Try.prog w = .ok (.bool false) w := fun _ => rfl
  have hn2 : ∀ w, (Op.unary .not (.bool false)).run Try.prog w = .ok (.bool true) w := fun _ => rfl
  have GT := Grown.refl w
  by_cases hin : 1 ≤ a0 ∧ a0 < 42
  · obtain ⟨k, rfl⟩ : ∃ k : Nat, a0 = k := ⟨a0.toNat, by omega⟩
    have k1 : 1 ≤ k := by omega
    have k2 : k < 42 := by omega
    have e1 := takes_yes k k1 k2
    have e2 := gives_yes k k1 k2
    obtain ⟨p0, p1, p2, p3, p4⟩ := heights k k1 k2
    generalize tk k = n2 at *
    generalize gv k = n3 at *
    have e3 := ends_any (k : Int)
    have e4 := jumps_any (k : Int)
    generalize endsB (k : Int) = b1 at *
    generalize jumpsB (k : Int) = b2 at *
    have p5 : b1 = true → n3 = 0 := fun h => p4 (.inl h)
    have p6 : b2 = true → n3 = 0 := fun h => p4 (.inr h)
    clear p4
    cases b1 <;> cases b2
    · clear p5 p6
      go_enter Try.func6, Try.ntmps6
      go_wp2_with (first | (go_at_call 7; with_reducible refine (awake9_any _).mono ?_; rintro e w' ⟨rfl, G1⟩; have GT := grown_trans GT G1) | (go_at_call 12; with_reducible refine (e1 _).mono ?_; rintro e w' ⟨rfl, G1⟩; have GT := grown_trans GT G1) | (go_at_call 13; with_reducible refine (e2 _).mono ?_; rintro e w' ⟨rfl, G1⟩; have GT := grown_trans GT G1) | (go_at_call 15; with_reducible refine (e3 _).mono ?_; rintro e w' ⟨rfl, rfl⟩) | (go_at_call 14; with_reducible refine (e4 _).mono ?_; rintro e w' ⟨rfl, rfl⟩))
      go_ret
      exact ⟨rfl, GT⟩
    · obtain rfl := p6 rfl
      clear p5 p6
      go_enter Try.func6, Try.ntmps6
      go_wp2_with (first | (go_at_call 7; with_reducible refine (awake9_any _).mono ?_; rintro e w' ⟨rfl, G1⟩; have GT := grown_trans GT G1) | (go_at_call 12; with_reducible refine (e1 _).mono ?_; rintro e w' ⟨rfl, G1⟩; have GT := grown_trans GT G1) | (go_at_call 13; with_reducible refine (e2 _).mono ?_; rintro e w' ⟨rfl, G1⟩; have GT := grown_trans GT G1) | (go_at_call 15; with_reducible refine (e3 _).mono ?_; rintro e w' ⟨rfl, rfl⟩) | (go_at_call 14; with_reducible refine (e4 _).mono ?_; rintro e w' ⟨rfl, rfl⟩))
      go_ret
      exact ⟨rfl, GT⟩
    · obtain rfl := p5 rfl
      clear p5 p6
      go_enter Try.func6, Try.ntmps6
      go_wp2_with (first | (go_at_call 7; with_reducible refine (awake9_any _).mono ?_; rintro e w' ⟨rfl, G1⟩; have GT := grown_trans GT G1) | (go_at_call 12; with_reducible refine (e1 _).mono ?_; rintro e w' ⟨rfl, G1⟩; have GT := grown_trans GT G1) | (go_at_call 13; with_reducible refine (e2 _).mono ?_; rintro e w' ⟨rfl, G1⟩; have GT := grown_trans GT G1) | (go_at_call 15; with_reducible refine (e3 _).mono ?_; rintro e w' ⟨rfl, rfl⟩) | (go_at_call 14; with_reducible refine (e4 _).mono ?_; rintro e w' ⟨rfl, rfl⟩))
      go_ret
      exact ⟨rfl, GT⟩
    · obtain rfl := p5 rfl
      clear p5 p6
      go_enter Try.func6, Try.ntmps6
      go_wp2_with (first | (go_at_call 7; with_reducible refine (awake9_any _).mono ?_; rintro e w' ⟨rfl, G1⟩; have GT := grown_trans GT G1) | (go_at_call 12; with_reducible refine (e1 _).mono ?_; rintro e w' ⟨rfl, G1⟩; have GT := grown_trans GT G1) | (go_at_call 13; with_reducible refine (e2 _).mono ?_; rintro e w' ⟨rfl, G1⟩; have GT := grown_trans GT G1) | (go_at_call 15; with_reducible refine (e3 _).mono ?_; rintro e w' ⟨rfl, rfl⟩) | (go_at_call 14; with_reducible refine (e4 _).mono ?_; rintro e w' ⟨rfl, rfl⟩))
      go_ret
      exact ⟨rfl, GT⟩
  · go_enter Try.func6, Try.ntmps6
    go_wp2_with (first | (go_at_call 7; with_reducible refine (awake9_any _).mono ?_; rintro e w' ⟨rfl, G1⟩; have GT := grown_trans GT G1) | (go_at_call 12; with_reducible refine (takes_no _ hin _).mono ?_; rintro e w' ⟨rfl, G1⟩; have GT := grown_trans GT G1) | (go_at_call 13; with_reducible refine (gives_no _ hin _).mono ?_; rintro e w' ⟨rfl, G1⟩; have GT := grown_trans GT G1) | (go_at_call 11; with_reducible refine (name_no _ hin _).mono ?_; rintro e w' ⟨rfl, G1⟩; have GT := grown_trans GT G1))
    go_ret
    exact ⟨rfl, GT⟩

set_option maxRecDepth 100000 in
theorem lifted (os : Os) (started : os.Started) (H : Type) (enc : TypeId × Value → H) :
    ReturnsInHanded {} Try.checked os 6 .any (Rows.instHeightsSpec.pre6 enc Try.prog Try.f6 Rows.instHeightsRow.domain false) (Rows.instHeightsSpec.post enc Try.prog Try.f6 false true false false) := by
  refine returnsInHanded_of_change (C := Try.checked) own started (by kernel_rfl) Try.func6
    (ChangeSpec.witness6 (enc := enc) (C := Try.checked) false ⟨#[], #[.int .i64 0], []⟩ 8 (by kernel_rfl) (by kernel_rfl) (by kernel_rfl) (by kernel_rfl)) ?_
  intro W base args ds gs before hval0 hW hcnd _
  have hval : ∀ (j : Nat) t v, Try.f6.params[j]? = some t → args[j]? = some v → Value.okWide Try.prog W .any base t v := hval0
  have hW' := hW
  obtain ⟨p, q, hA0, hV, rfl, hfz, hnd⟩ := hW
  have hA : DataW.TrodAll enc Try.prog W 0 (fun _ => true) true Try.f6.params.toList args.toList ds p := hA0
  rw [Try.params6] at hA hval
  obtain ⟨v0, vs0, d0, ds0, p0, q0, hargs, rfl, rfl, h0, r0⟩ := trodAll_cons hA
  obtain ⟨rfl, rfl, rfl⟩ := trodAll_nil r0
  obtain rfl : args = #[v0] := by cases args; simp_all
  obtain ⟨rfl, rfl⟩ := trodVars_none hV
  obtain ⟨a0, rfl, rfl, rfl, w0⟩ := open_int Try.underlying3 (hval 0 3 v0 rfl rfl) h0
  clear hA0 hval0
  simp only [List.append_nil] at hW'
  refine (walk a0 w0 W).mono fun e W' ⟨he, hg⟩ => ?_
  subst he
  exact ⟨_, rfl, post_of_same (pa := []) (pv := []) hW' (fun _ _ _ => (trodAll_cons_mk (shut_bool Try.underlying4 _) trodAll_mk0)) (fun sp _ => (trodAll_cons_mk (shut_int Try.underlying3 w0) trodAll_mk0)) (fun _ _ => rfl) rfl
    (hg.frame _) hg.2.1 (ok_one (by kernel_rfl) rfl (okWide_bool_mk Try.underlying4 _))⟩

theorem over : Rows.instHeightsRow.holds Try.pinned (OpenSpec.ofChange Rows.instHeightsSpec) :=
  OpenClaim.holds_of_wide 6 Try.f6 rfl rfl rfl rfl rfl rfl rfl ⟨rfl, rfl, rfl, rfl, rfl⟩ rfl rfl rfl rfl rfl (by kernel_rfl) Try.func6 (by kernel_rfl)
    (of_decide_eq_true (by kernel_rfl)) (by unfold Func.isWrapper; first | (rw [if_pos (by decide +kernel)]; kernel_rfl) | (rw [if_neg (by decide +kernel)]; exact ⟨rfl, rfl⟩))
    (fun os started H enc _ => lifted os started H enc)

theorem proved : Rows.InstHeightsSaid :=
  over
#print axioms proved
end Go.Proofs.Ytdpnbacjlfbfjaa.instHeights
