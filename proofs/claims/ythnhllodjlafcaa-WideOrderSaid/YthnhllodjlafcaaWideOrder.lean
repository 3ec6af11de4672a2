/-
  The law WideOrder: for every width that may be and any two numbers, less is the order of their lowest bits, and with the highest bit turned it is the order of the numbers with a sign. No condition.
-/
import Derived.Test.YthnhllodjlafcaaRef
import Derived.ProofKit
import Derived.OpenShut
namespace Go.Proofs.Ythnhllodjlafcaa.wideOrder
open Go.ChangeShapes Go.WideShapes Go.ChangeAt Go.RowKit
set_option linter.unusedVariables false

theorem own : ownKnob Try.prog.godebug = none := by kernel_rfl

theorem walk (a0 : Int) (a1 : Int) (a2 : Int) (w0 : (Lit.int .i64 a0).wf = true) (w1 : (Lit.int .u16 a1).wf = true) (w2 : (Lit.int .u16 a2).wf = true) (w : World) :
    Calls Try.prog 8 #[.int .i64 a0, .int .u16 a1, .int .u16 a2] w fun e w' => e = .returned (.bool true) ∧ Grown w w' := by
  obtain ⟨b10, b11⟩ := bounds_u16 w1
  obtain ⟨b20, b21⟩ := bounds_u16 w2
  by_cases hw : mayw a0
  · rcases hw with rfl | rfl | rfl
    · have hS := sgn_lt_one a1 a2 b10 b11 b20 b21
      have hm : mayw 1 := (.inl rfl)
      have x1 := xor_bd a1 1 ⟨b10, b11⟩ ⟨by decide, by decide⟩
      have x2 := xor_bd a2 1 ⟨b20, b21⟩ ⟨by decide, by decide⟩
      have hA := u16_mask hm a1 b10 b11
      have hB := u16_mask hm a2 b20 b21
      have hC := bit_one (decide (low 1 a1 < low 1 a2))
      have hD := bit_one (decide (low 1 (bits .xor .u16 a1 1) < low 1 (bits .xor .u16 a2 1)))
      have eA : a1 % pw 1 = low 1 a1 := rfl
      have eB : a2 % pw 1 = low 1 a2 := rfl
      rw [eA] at hA
      rw [eB] at hB
      have hS2 : (decide (low 1 (bits .xor .u16 a1 1) < low 1 (bits .xor .u16 a2 1))) = decide (sgn 1 a1 < sgn 1 a2) := by simp only [hS]
      clear hS eA eB
      have c1 := fun W => do_15 1 a1 a2 W hm b10 b11 b20 b21
      have c2 := fun W => do_15 1 (bits .xor .u16 a1 1) (bits .xor .u16 a2 1) W hm x1.1 x1.2 x2.1 x2.2
      clear x1 x2
      go_enter Try.func8, Try.ntmps8
      go_wp2_with (first | (go_at_call 9; ((with_reducible refine (awake_any _).mono ?_); rintro e w' ⟨rfl, rfl⟩)) | (go_at_call 14; ((with_reducible refine (rmay_yes _ _ hm).mono ?_); rintro e w' ⟨rfl, rfl⟩)) | (go_at_call 16; ((with_reducible refine (rmask_yes _ _ hm).mono ?_); rintro e w' ⟨rfl, rfl⟩)) | (go_at_call 10; ((with_reducible refine (c1 _).mono ?_); rintro e w' ⟨rfl, rfl⟩)) | (go_at_call 10; ((with_reducible refine (c2 _).mono ?_); rintro e w' ⟨rfl, rfl⟩)) | (go_at_call 17; refine (signed_yes _ _ _ hm (by assumption) (by assumption)).mono ?_; rintro e w' ⟨rfl, rfl⟩))
      go_ret
      exact ⟨by first | rfl | simp_all, by repeat (first | exact Grown.refl _ | apply Grown.drew | apply Grown.alloc)⟩
    · have hS := sgn_lt_eight a1 a2 b10 b11 b20 b21
      have hm : mayw 8 := (.inr (.inl rfl))
      have x1 := xor_bd a1 128 ⟨b10, b11⟩ ⟨by decide, by decide⟩
      have x2 := xor_bd a2 128 ⟨b20, b21⟩ ⟨by decide, by decide⟩
      have hA := u16_mask hm a1 b10 b11
      have hB := u16_mask hm a2 b20 b21
      have hC := bit_one (decide (low 8 a1 < low 8 a2))
      have hD := bit_one (decide (low 8 (bits .xor .u16 a1 128) < low 8 (bits .xor .u16 a2 128)))
      have eA : a1 % pw 8 = low 8 a1 := rfl
      have eB : a2 % pw 8 = low 8 a2 := rfl
      rw [eA] at hA
      rw [eB] at hB
      have hS2 : (decide (low 8 (bits .xor .u16 a1 128) < low 8 (bits .xor .u16 a2 128))) = decide (sgn 8 a1 < sgn 8 a2) := by simp only [hS]
      clear hS eA eB
      have c1 := fun W => do_15 8 a1 a2 W hm b10 b11 b20 b21
      have c2 := fun W => do_15 8 (bits .xor .u16 a1 128) (bits .xor .u16 a2 128) W hm x1.1 x1.2 x2.1 x2.2
      clear x1 x2
      go_enter Try.func8, Try.ntmps8
      go_wp2_with (first | (go_at_call 9; ((with_reducible refine (awake_any _).mono ?_); rintro e w' ⟨rfl, rfl⟩)) | (go_at_call 14; ((with_reducible refine (rmay_yes _ _ hm).mono ?_); rintro e w' ⟨rfl, rfl⟩)) | (go_at_call 16; ((with_reducible refine (rmask_yes _ _ hm).mono ?_); rintro e w' ⟨rfl, rfl⟩)) | (go_at_call 10; ((with_reducible refine (c1 _).mono ?_); rintro e w' ⟨rfl, rfl⟩)) | (go_at_call 10; ((with_reducible refine (c2 _).mono ?_); rintro e w' ⟨rfl, rfl⟩)) | (go_at_call 17; refine (signed_yes _ _ _ hm (by assumption) (by assumption)).mono ?_; rintro e w' ⟨rfl, rfl⟩))
      go_ret
      exact ⟨by first | rfl | simp_all, by repeat (first | exact Grown.refl _ | apply Grown.drew | apply Grown.alloc)⟩
    · have hS := sgn_lt_sixteen a1 a2 b10 b11 b20 b21
      have hm : mayw 16 := (.inr (.inr rfl))
      have x1 := xor_bd a1 32768 ⟨b10, b11⟩ ⟨by decide, by decide⟩
      have x2 := xor_bd a2 32768 ⟨b20, b21⟩ ⟨by decide, by decide⟩
      have hA := u16_mask hm a1 b10 b11
      have hB := u16_mask hm a2 b20 b21
      have hC := bit_one (decide (low 16 a1 < low 16 a2))
      have hD := bit_one (decide (low 16 (bits .xor .u16 a1 32768) < low 16 (bits .xor .u16 a2 32768)))
      have eA : a1 % pw 16 = low 16 a1 := rfl
      have eB : a2 % pw 16 = low 16 a2 := rfl
      rw [eA] at hA
      rw [eB] at hB
      have hS2 : (decide (low 16 (bits .xor .u16 a1 32768) < low 16 (bits .xor .u16 a2 32768))) = decide (sgn 16 a1 < sgn 16 a2) := by simp only [hS]
      clear hS eA eB
      have c1 := fun W => do_15 16 a1 a2 W hm b10 b11 b20 b21
      have c2 := fun W => do_15 16 (bits .xor .u16 a1 32768) (bits .xor .u16 a2 32768) W hm x1.1 x1.2 x2.1 x2.2
      clear x1 x2
      go_enter Try.func8, Try.ntmps8
      go_wp2_with (first | (go_at_call 9; ((with_reducible refine (awake_any _).mono ?_); rintro e w' ⟨rfl, rfl⟩)) | (go_at_call 14; ((with_reducible refine (rmay_yes _ _ hm).mono ?_); rintro e w' ⟨rfl, rfl⟩)) | (go_at_call 16; ((with_reducible refine (rmask_yes _ _ hm).mono ?_); rintro e w' ⟨rfl, rfl⟩)) | (go_at_call 10; ((with_reducible refine (c1 _).mono ?_); rintro e w' ⟨rfl, rfl⟩)) | (go_at_call 10; ((with_reducible refine (c2 _).mono ?_); rintro e w' ⟨rfl, rfl⟩)) | (go_at_call 17; refine (signed_yes _ _ _ hm (by assumption) (by assumption)).mono ?_; rintro e w' ⟨rfl, rfl⟩))
      go_ret
      exact ⟨by first | rfl | simp_all, by repeat (first | exact Grown.refl _ | apply Grown.drew | apply Grown.alloc)⟩
  · go_enter Try.func8, Try.ntmps8
    go_wp2_with (first | (go_at_call 9; ((with_reducible refine (awake_any _).mono ?_); rintro e w' ⟨rfl, rfl⟩)) | (go_at_call 14; ((with_reducible refine (rmay_no _ _ hw).mono ?_); rintro e w' ⟨rfl, rfl⟩)))
    go_ret
    exact ⟨rfl, by repeat (first | exact Grown.refl _ | apply Grown.drew | apply Grown.alloc)⟩

set_option maxRecDepth 100000 in
theorem lifted (os : Os) (started : os.Started) (H : Type) (enc : TypeId × Value → H) :
    ReturnsInHanded {} Try.checked os 8 .any (Rows.wideOrderSpec.pre6 enc Try.prog Try.f8 Rows.wideOrderRow.domain false) (Rows.wideOrderSpec.post enc Try.prog Try.f8 false true false false) := by
  refine returnsInHanded_of_change (C := Try.checked) own started (by kernel_rfl) Try.func8
    (ChangeSpec.witness6 (enc := enc) (C := Try.checked) false ⟨#[], #[.int .i64 0, .int .u16 0, .int .u16 0], []⟩ 8 (by kernel_rfl) (by kernel_rfl) (by kernel_rfl) (by kernel_rfl)) ?_
  intro W base args ds gs before hval0 hW hcnd _
  have hval : ∀ (j : Nat) t v, Try.f8.params[j]? = some t → args[j]? = some v → Value.okWide Try.prog W .any base t v := hval0
  have hW' := hW
  obtain ⟨p, q, hA0, hV, rfl, hfz, hnd⟩ := hW
  have hA : DataW.TrodAll enc Try.prog W 0 (fun _ => true) true Try.f8.params.toList args.toList ds p := hA0
  rw [Try.params8] at hA hval
  obtain ⟨v0, vs0, d0, ds0, p0, q0, hargs, rfl, rfl, h0, r0⟩ := trodAll_cons hA
  obtain ⟨v1, vs1, d1, ds1, p1, q1, rfl, rfl, rfl, h1, r1⟩ := trodAll_cons r0
  obtain ⟨v2, vs2, d2, ds2, p2, q2, rfl, rfl, rfl, h2, r2⟩ := trodAll_cons r1
  obtain ⟨rfl, rfl, rfl⟩ := trodAll_nil r2
  obtain rfl : args = #[v0, v1, v2] := by cases args; simp_all
  obtain ⟨rfl, rfl⟩ := trodVars_none hV
  obtain ⟨a0, rfl, rfl, rfl, w0⟩ := open_int Try.underlying3 (hval 0 3 v0 rfl rfl) h0
  obtain ⟨a1, rfl, rfl, rfl, w1⟩ := open_int Try.underlying22 (hval 1 22 v1 rfl rfl) h1
  obtain ⟨a2, rfl, rfl, rfl, w2⟩ := open_int Try.underlying22 (hval 2 22 v2 rfl rfl) h2
  clear hA0 hval0
  simp only [List.append_nil] at hW'
  refine (walk a0 a1 a2 w0 w1 w2 W).mono fun e W' ⟨he, hg⟩ => ?_
  subst he
  exact ⟨_, rfl, post_of_same (pa := []) (pv := []) hW' (fun _ _ _ => (trodAll_cons_mk (shut_bool Try.underlying4 _) trodAll_mk0)) (fun sp _ => (trodAll_cons_mk (shut_int Try.underlying3 w0) (trodAll_cons_mk (shut_int Try.underlying22 w1) (trodAll_cons_mk (shut_int Try.underlying22 w2) trodAll_mk0)))) (fun _ _ => rfl) rfl
    (hg.frame _) hg.2.1 (ok_one (by kernel_rfl) rfl (okWide_bool_mk Try.underlying4 _))⟩

theorem over : Rows.wideOrderRow.holds Try.pinned (OpenSpec.ofChange Rows.wideOrderSpec) :=
  OpenClaim.holds_of_wide 8 Try.f8 rfl rfl rfl rfl rfl rfl rfl ⟨rfl, rfl, rfl, rfl, rfl⟩ rfl rfl rfl rfl rfl (by kernel_rfl) Try.func8 (by kernel_rfl)
    (of_decide_eq_true (by kernel_rfl)) (by unfold Func.isWrapper; first | (rw [if_pos (by decide +kernel)]; kernel_rfl) | (rw [if_neg (by decide +kernel)]; exact ⟨rfl, rfl⟩))
    (fun os started H enc _ => lifted os started H enc)

theorem proved : Rows.WideOrderSaid :=
  over
#print axioms proved
end Go.Proofs.Ythnhllodjlafcaa.wideOrder
