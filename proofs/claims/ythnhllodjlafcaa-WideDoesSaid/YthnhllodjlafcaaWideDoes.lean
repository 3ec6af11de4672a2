/-
  The law WideDoes: for every operator, width and two numbers Do answers what the document says, of the width that Out tells, or the reason why nothing comes; May and Mask are as the document has them. No condition.
-/
import Derived.Test.YthnhllodjlafcaaRef
import Derived.ProofKit
import Derived.OpenShut
namespace Go.Proofs.Ythnhllodjlafcaa.wideDoes
open Go.ChangeShapes Go.WideShapes Go.ChangeAt Go.RowKit
set_option linter.unusedVariables false

theorem own : ownKnob Try.prog.godebug = none := by kernel_rfl
theorem cellsA2 : Try.prog.cellsOf 23 = 2 := by kernel_rfl
theorem cellsE2 : Try.prog.cellsOf 22 = 1 := by kernel_rfl
theorem list2 {α : Type} (l : List α) (h : (⟨l⟩ : Array α).size = 2) : ∃ v0 v1, l = [v0, v1] := by
  match l, h with | [v0, v1], _ => exact ⟨v0, v1, rfl⟩
theorem list2' {α : Type} (l : List α) (h : l.length = 2) : ∃ v0 v1, l = [v0, v1] := by
  match l, h with | [v0, v1], _ => exact ⟨v0, v1, rfl⟩

theorem walk (a0 : Int) (a1 : Int) (a2_0 a2_1 : Int) (w0 : (Lit.int .i64 a0).wf = true) (w1 : (Lit.int .i64 a1).wf = true) (w2_0 : (Lit.int .u16 a2_0).wf = true) (w2_1 : (Lit.int .u16 a2_1).wf = true) (w : World) :
    Calls Try.prog 3 #[.int .i64 a0, .int .i64 a1, .agg #[.int .u16 a2_0, .int .u16 a2_1]] w fun e w' => e = .returned (.bool true) ∧ Grown w w' := by
  have b0 := bounds_u16 w2_0
  have b1 := bounds_u16 w2_1
  obtain ⟨b00, b01⟩ := b0
  obtain ⟨b10, b11⟩ := b1
  by_cases hw : mayw a1
  · by_cases ho : 3 ≤ a0 ∧ a0 ≤ 15
    · obtain ⟨h0, h1⟩ := ho
      by_cases h14 : a0 = 14
      · subst h14
        have eo : outV 14 a1 = 1 := rfl
        go_enter Try.func3, Try.ntmps3
        go_wp2_with (first | (go_at_call 9; ((with_reducible refine (awake_any _).mono ?_); rintro e w' ⟨rfl, rfl⟩)) | (go_at_call 10; refine (do_yes _ a1 a2_0 a2_1 _ hw (by omega) (by omega) b00 b01 b10 b11).mono ?_; rintro e w' ⟨rfl, rfl⟩) | (go_at_call 11; refine (rdo_yes _ a1 a2_0 a2_1 _ hw (by omega) (by omega) b00 b01 b10 b11).mono ?_; rintro e w' ⟨rfl, rfl⟩) | (go_at_call 12; refine (out_yes _ a1 _ hw (by omega) (by omega)).mono ?_; rintro e w' ⟨rfl, rfl⟩) | (go_at_call 13; ((with_reducible refine (may_yes _ _ hw).mono ?_); rintro e w' ⟨rfl, rfl⟩)) | (go_at_call 14; ((with_reducible refine (rmay_yes _ _ hw).mono ?_); rintro e w' ⟨rfl, rfl⟩)) | (go_at_call 15; ((with_reducible refine (mask_yes _ _ hw).mono ?_); rintro e w' ⟨rfl, rfl⟩)) | (go_at_call 16; ((with_reducible refine (rmask_yes _ _ hw).mono ?_); rintro e w' ⟨rfl, rfl⟩)))
        go_ret
        exact ⟨by first | rfl | simp_all, by repeat (first | exact Grown.refl _ | apply Grown.drew | apply Grown.alloc)⟩
      by_cases h15 : a0 = 15
      · subst h15
        have eo : outV 15 a1 = 1 := rfl
        go_enter Try.func3, Try.ntmps3
        go_wp2_with (first | (go_at_call 9; ((with_reducible refine (awake_any _).mono ?_); rintro e w' ⟨rfl, rfl⟩)) | (go_at_call 10; refine (do_yes _ a1 a2_0 a2_1 _ hw (by omega) (by omega) b00 b01 b10 b11).mono ?_; rintro e w' ⟨rfl, rfl⟩) | (go_at_call 11; refine (rdo_yes _ a1 a2_0 a2_1 _ hw (by omega) (by omega) b00 b01 b10 b11).mono ?_; rintro e w' ⟨rfl, rfl⟩) | (go_at_call 12; refine (out_yes _ a1 _ hw (by omega) (by omega)).mono ?_; rintro e w' ⟨rfl, rfl⟩) | (go_at_call 13; ((with_reducible refine (may_yes _ _ hw).mono ?_); rintro e w' ⟨rfl, rfl⟩)) | (go_at_call 14; ((with_reducible refine (rmay_yes _ _ hw).mono ?_); rintro e w' ⟨rfl, rfl⟩)) | (go_at_call 15; ((with_reducible refine (mask_yes _ _ hw).mono ?_); rintro e w' ⟨rfl, rfl⟩)) | (go_at_call 16; ((with_reducible refine (rmask_yes _ _ hw).mono ?_); rintro e w' ⟨rfl, rfl⟩)))
        go_ret
        exact ⟨by first | rfl | simp_all, by repeat (first | exact Grown.refl _ | apply Grown.drew | apply Grown.alloc)⟩
      have eo : outV a0 a1 = a1 := by unfold outV; rw [if_neg h14, if_neg h15]
      have t14 : (a0 == 14) = false := by simpa using h14
      have t15 : (a0 == 15) = false := by simpa using h15
      clear h14 h15
      go_enter Try.func3, Try.ntmps3
      go_wp2_with (first | (go_at_call 9; ((with_reducible refine (awake_any _).mono ?_); rintro e w' ⟨rfl, rfl⟩)) | (go_at_call 10; refine (do_yes _ a1 a2_0 a2_1 _ hw (by omega) (by omega) b00 b01 b10 b11).mono ?_; rintro e w' ⟨rfl, rfl⟩) | (go_at_call 11; refine (rdo_yes _ a1 a2_0 a2_1 _ hw (by omega) (by omega) b00 b01 b10 b11).mono ?_; rintro e w' ⟨rfl, rfl⟩) | (go_at_call 12; refine (out_yes _ a1 _ hw (by omega) (by omega)).mono ?_; rintro e w' ⟨rfl, rfl⟩) | (go_at_call 13; ((with_reducible refine (may_yes _ _ hw).mono ?_); rintro e w' ⟨rfl, rfl⟩)) | (go_at_call 14; ((with_reducible refine (rmay_yes _ _ hw).mono ?_); rintro e w' ⟨rfl, rfl⟩)) | (go_at_call 15; ((with_reducible refine (mask_yes _ _ hw).mono ?_); rintro e w' ⟨rfl, rfl⟩)) | (go_at_call 16; ((with_reducible refine (rmask_yes _ _ hw).mono ?_); rintro e w' ⟨rfl, rfl⟩)))
      go_ret
      exact ⟨by first | rfl | simp_all, by repeat (first | exact Grown.refl _ | apply Grown.drew | apply Grown.alloc)⟩
    · have t14 : (a0 == 14) = false := by simp; omega
      have t15 : (a0 == 15) = false := by simp; omega
      have H := Lib.hid ho
      clear ho
      go_enter Try.func3, Try.ntmps3
      go_wp2_with (first | (go_at_call 9; ((with_reducible refine (awake_any _).mono ?_); rintro e w' ⟨rfl, rfl⟩)) | (go_at_call 10; refine (do_op _ a1 a2_0 a2_1 _ hw H.out).mono ?_; rintro e w' ⟨rfl, rfl⟩) | (go_at_call 11; refine (rdo_op _ a1 a2_0 a2_1 _ hw H.out b00 b01 b10 b11).mono ?_; rintro e w' ⟨rfl, rfl⟩) | (go_at_call 12; refine (out_no _ a1 _ (fun h => H.out h.2)).mono ?_; rintro e w' ⟨rfl, rfl⟩) | (go_at_call 13; ((with_reducible refine (may_yes _ _ hw).mono ?_); rintro e w' ⟨rfl, rfl⟩)) | (go_at_call 14; ((with_reducible refine (rmay_yes _ _ hw).mono ?_); rintro e w' ⟨rfl, rfl⟩)) | (go_at_call 15; ((with_reducible refine (mask_yes _ _ hw).mono ?_); rintro e w' ⟨rfl, rfl⟩)) | (go_at_call 16; ((with_reducible refine (rmask_yes _ _ hw).mono ?_); rintro e w' ⟨rfl, rfl⟩)))
      go_ret
      exact ⟨by first | rfl | simp_all, by repeat (first | exact Grown.refl _ | apply Grown.drew | apply Grown.alloc)⟩
  · by_cases h14 : a0 = 14
    · subst h14
      go_enter Try.func3, Try.ntmps3
      go_wp2_with (first | (go_at_call 9; ((with_reducible refine (awake_any _).mono ?_); rintro e w' ⟨rfl, rfl⟩)) | (go_at_call 10; refine (do_width _ a1 a2_0 a2_1 _ hw).mono ?_; rintro e w' ⟨rfl, rfl⟩) | (go_at_call 11; refine (rdo_width _ a1 a2_0 a2_1 _ hw).mono ?_; rintro e w' ⟨rfl, rfl⟩) | (go_at_call 12; refine (out_no _ a1 _ (fun h => hw h.1)).mono ?_; rintro e w' ⟨rfl, rfl⟩) | (go_at_call 13; ((with_reducible refine (may_no _ _ hw).mono ?_); rintro e w' ⟨rfl, rfl⟩)) | (go_at_call 14; ((with_reducible refine (rmay_no _ _ hw).mono ?_); rintro e w' ⟨rfl, rfl⟩)) | (go_at_call 15; ((with_reducible refine (mask_no _ _ hw).mono ?_); rintro e w' ⟨rfl, rfl⟩)) | (go_at_call 16; ((with_reducible refine (rmask_no _ _ hw).mono ?_); rintro e w' ⟨rfl, rfl⟩)))
      go_ret
      exact ⟨by first | rfl | simp_all, by repeat (first | exact Grown.refl _ | apply Grown.drew | apply Grown.alloc)⟩
    by_cases h15 : a0 = 15
    · subst h15
      go_enter Try.func3, Try.ntmps3
      go_wp2_with (first | (go_at_call 9; ((with_reducible refine (awake_any _).mono ?_); rintro e w' ⟨rfl, rfl⟩)) | (go_at_call 10; refine (do_width _ a1 a2_0 a2_1 _ hw).mono ?_; rintro e w' ⟨rfl, rfl⟩) | (go_at_call 11; refine (rdo_width _ a1 a2_0 a2_1 _ hw).mono ?_; rintro e w' ⟨rfl, rfl⟩) | (go_at_call 12; refine (out_no _ a1 _ (fun h => hw h.1)).mono ?_; rintro e w' ⟨rfl, rfl⟩) | (go_at_call 13; ((with_reducible refine (may_no _ _ hw).mono ?_); rintro e w' ⟨rfl, rfl⟩)) | (go_at_call 14; ((with_reducible refine (rmay_no _ _ hw).mono ?_); rintro e w' ⟨rfl, rfl⟩)) | (go_at_call 15; ((with_reducible refine (mask_no _ _ hw).mono ?_); rintro e w' ⟨rfl, rfl⟩)) | (go_at_call 16; ((with_reducible refine (rmask_no _ _ hw).mono ?_); rintro e w' ⟨rfl, rfl⟩)))
      go_ret
      exact ⟨by first | rfl | simp_all, by repeat (first | exact Grown.refl _ | apply Grown.drew | apply Grown.alloc)⟩
    have t14 : (a0 == 14) = false := by simpa using h14
    have t15 : (a0 == 15) = false := by simpa using h15
    clear h14 h15
    go_enter Try.func3, Try.ntmps3
    go_wp2_with (first | (go_at_call 9; ((with_reducible refine (awake_any _).mono ?_); rintro e w' ⟨rfl, rfl⟩)) | (go_at_call 10; refine (do_width _ a1 a2_0 a2_1 _ hw).mono ?_; rintro e w' ⟨rfl, rfl⟩) | (go_at_call 11; refine (rdo_width _ a1 a2_0 a2_1 _ hw).mono ?_; rintro e w' ⟨rfl, rfl⟩) | (go_at_call 12; refine (out_no _ a1 _ (fun h => hw h.1)).mono ?_; rintro e w' ⟨rfl, rfl⟩) | (go_at_call 13; ((with_reducible refine (may_no _ _ hw).mono ?_); rintro e w' ⟨rfl, rfl⟩)) | (go_at_call 14; ((with_reducible refine (rmay_no _ _ hw).mono ?_); rintro e w' ⟨rfl, rfl⟩)) | (go_at_call 15; ((with_reducible refine (mask_no _ _ hw).mono ?_); rintro e w' ⟨rfl, rfl⟩)) | (go_at_call 16; ((with_reducible refine (rmask_no _ _ hw).mono ?_); rintro e w' ⟨rfl, rfl⟩)))
    go_ret
    exact ⟨by first | rfl | simp_all, by repeat (first | exact Grown.refl _ | apply Grown.drew | apply Grown.alloc)⟩

set_option maxRecDepth 100000 in
theorem lifted (os : Os) (started : os.Started) (H : Type) (enc : TypeId × Value → H) :
    ReturnsInHanded {} Try.checked os 3 .any (Rows.wideDoesSpec.pre6 enc Try.prog Try.f3 Rows.wideDoesRow.domain false) (Rows.wideDoesSpec.post enc Try.prog Try.f3 false true false false) := by
  refine returnsInHanded_of_change (C := Try.checked) own started (by kernel_rfl) Try.func3
    (ChangeSpec.witness6 (enc := enc) (C := Try.checked) false ⟨#[], #[.int .i64 0, .int .i64 0, .agg #[.int .u16 0, .int .u16 0]], []⟩ 8 (by kernel_rfl) (by kernel_rfl) (by kernel_rfl) (by kernel_rfl)) ?_
  intro W base args ds gs before hval0 hW hcnd _
  have hval : ∀ (j : Nat) t v, Try.f3.params[j]? = some t → args[j]? = some v → Value.okWide Try.prog W .any base t v := hval0
  have hW' := hW
  obtain ⟨p, q, hA0, hV, rfl, hfz, hnd⟩ := hW
  have hA : DataW.TrodAll enc Try.prog W 0 (fun _ => true) true Try.f3.params.toList args.toList ds p := hA0
  rw [Try.params3] at hA hval
  obtain ⟨v0, vs0, d0, ds0, p0, q0, hargs, rfl, rfl, h0, r0⟩ := trodAll_cons hA
  obtain ⟨v1, vs1, d1, ds1, p1, q1, rfl, rfl, rfl, h1, r1⟩ := trodAll_cons r0
  obtain ⟨v2, vs2, d2, ds2, p2, q2, rfl, rfl, rfl, h2, r2⟩ := trodAll_cons r1
  obtain ⟨rfl, rfl, rfl⟩ := trodAll_nil r2
  obtain rfl : args = #[v0, v1, v2] := by cases args; simp_all
  obtain ⟨rfl, rfl⟩ := trodVars_none hV
  obtain ⟨a0, rfl, rfl, rfl, w0⟩ := open_int Try.underlying3 (hval 0 3 v0 rfl rfl) h0
  obtain ⟨a1, rfl, rfl, rfl, w1⟩ := open_int Try.underlying3 (hval 1 3 v1 rfl rfl) h1
  obtain ⟨cs2, rfl, hsz2, _⟩ : ∃ cs, v2 = .agg cs ∧ cs.size = Try.prog.cellsOf 23 ∧ Row.okWide Try.prog W .any base 23 cs := by
    have := hval 2 23 v2 rfl rfl
    simpa [Value.okWide, Try.underlying23] using this
  rw [cellsA2] at hsz2
  obtain ⟨l2⟩ := cs2
  obtain ⟨c2_0, c2_1, rfl⟩ := list2 l2 hsz2
  obtain ⟨fuel2, hf2⟩ := h2
  obtain ⟨xs2, m2, _, hx2, _, hl2, hel2⟩ := DataW.trod_array Try.underlying23 hf2
  obtain ⟨y2_0, y2_1, rfl⟩ := list2' xs2 hl2
  obtain ⟨a2_0, e2_0, ey2_0, w2_0⟩ := DataW.trod_int Try.underlying22 (by simpa [cellsE2, Value.cells] using hel2 0 (by decide))
  obtain ⟨a2_1, e2_1, ey2_1, w2_1⟩ := DataW.trod_int Try.underlying22 (by simpa [cellsE2, Value.cells] using hel2 1 (by decide))
  simp at e2_0 e2_1
  subst e2_0 e2_1
  subst ey2_0 ey2_1
  simp only [List.map, List.flatMap_cons, List.flatMap_nil, List.append_nil, Prod.mk.injEq] at hx2
  obtain ⟨rfl, rfl⟩ := hx2
  clear hA0 hval0
  simp only [List.append_nil] at hW'
  refine (walk a0 a1 a2_0 a2_1 w0 w1 w2_0 w2_1 W).mono fun e W' ⟨he, hg⟩ => ?_
  subst he
  exact ⟨_, rfl, post_of_same (pa := []) (pv := []) hW' (fun _ _ _ => (trodAll_cons_mk (shut_bool Try.underlying4 _) trodAll_mk0)) (fun sp _ => (trodAll_cons_mk (shut_int Try.underlying3 w0) (trodAll_cons_mk (shut_int Try.underlying3 w1) (trodAll_cons_mk (p := []) (⟨2, by simp [DataW.trod, Value.cells, Try.underlying23, Try.underlying22, cellsA2, cellsE2, w2_0, w2_1, show List.range 2 = [0, 1] from rfl]⟩) trodAll_mk0)))) (fun _ _ => rfl) rfl
    (hg.frame _) hg.2.1 (ok_one (by kernel_rfl) rfl (okWide_bool_mk Try.underlying4 _))⟩

theorem over : Rows.wideDoesRow.holds Try.pinned (OpenSpec.ofChange Rows.wideDoesSpec) :=
  OpenClaim.holds_of_wide 3 Try.f3 rfl rfl rfl rfl rfl rfl rfl ⟨rfl, rfl, rfl, rfl, rfl⟩ rfl rfl rfl rfl rfl (by kernel_rfl) Try.func3 (by kernel_rfl)
    (of_decide_eq_true (by kernel_rfl)) (by unfold Func.isWrapper; first | (rw [if_pos (by decide +kernel)]; kernel_rfl) | (rw [if_neg (by decide +kernel)]; exact ⟨rfl, rfl⟩))
    (fun os started H enc _ => lifted os started H enc)

theorem proved : Rows.WideDoesSaid :=
  over
#print axioms proved
end Go.Proofs.Ythnhllodjlafcaa.wideDoes
