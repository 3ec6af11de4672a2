/-
  The law UnitKnown: formulas by hand: chains, contradictions, clauses of one literal twice. No condition.
-/
import Derived.Test.YtigomnbcalpohaaUnitL
import Derived.ProofKit
namespace Go.Proofs.Ytigomnbcalpohaa.unitKnown
open Go.ChangeShapes Go.WideShapes Go.ChangeAt Go.RowKit
set_option linter.unusedVariables false

set_option maxHeartbeats 6400000 in
set_option maxRecDepth 100000 in
theorem walk (w : World) : Calls Try.prog 5 #[] w fun e w' => e = .returned (.bool true) ∧ Below w.heap.size w w' := by
  go_enter Try.func5, Try.ntmps5
  go_wp2_with fail
  refine (awake_any _).mono ?_
  rintro e w1 ⟨rfl, hb⟩
  have HB1 := Lib.hid hb
  clear hb
  go_wp2_with fail
  refine (run_lit w1 3 [[1, 1], [-1, 2], [-2, -1, 3]] [0, 0, 0] (r := some (some [1, 1, 1])) (will_b (by decide +kernel)) (by decide)).mono ?_
  rintro e w2 ⟨hb, A0, cap0, rfl, hs, _⟩
  have HS0 := Lib.hid hs
  clear hs
  have HB2 := Lib.hid (Below.on HB1.out hb)
  clear hb HB1
  go_wp2_with fail
  refine (run_lit w2 2 [[1], [-1]] [0, 0] (r := some none) (will_b (by decide +kernel)) (by decide)).mono ?_
  rintro e w3 ⟨hb, rfl⟩
  have HS0' := Lib.hid (HS0.out.keep hb)
  clear HS0
  have HS0 := HS0'
  clear HS0'
  have HB3 := Lib.hid (Below.on HB2.out hb)
  clear hb HB2
  go_wp2_with fail
  refine (run_lit w3 2 [[]] [1, 0] (r := some none) (will_b (by decide +kernel)) (by decide)).mono ?_
  rintro e w4 ⟨hb, rfl⟩
  have HS0' := Lib.hid (HS0.out.keep hb)
  clear HS0
  have HS0 := HS0'
  clear HS0'
  have HB4 := Lib.hid (Below.on HB3.out hb)
  clear hb HB3
  go_wp2_with fail
  refine (run_lit w4 2 [[1, 2]] [0, 0] (r := some (some [0, 0])) (will_b (by decide +kernel)) (by decide)).mono ?_
  rintro e w5 ⟨hb, A3, cap3, rfl, hs, _⟩
  have HS3 := Lib.hid hs
  clear hs
  have HS0' := Lib.hid (HS0.out.keep hb)
  clear HS0
  have HS0 := HS0'
  clear HS0'
  have HB5 := Lib.hid (Below.on HB4.out hb)
  clear hb HB4
  go_wp2_with fail
  refine (run_lit w5 2 [[1, 2]] [-1, 0] (r := some (some [-1, 1])) (will_b (by decide +kernel)) (by decide)).mono ?_
  rintro e w6 ⟨hb, A4, cap4, rfl, hs, _⟩
  have HS4 := Lib.hid hs
  clear hs
  have HS0' := Lib.hid (HS0.out.keep hb)
  clear HS0
  have HS0 := HS0'
  clear HS0'
  have HS3' := Lib.hid (HS3.out.keep hb)
  clear HS3
  have HS3 := HS3'
  clear HS3'
  have HB6 := Lib.hid (Below.on HB5.out hb)
  clear hb HB5
  go_wp2_with fail
  refine (run_lit w6 1 [[1]] [-1] (r := some none) (will_b (by decide +kernel)) (by decide)).mono ?_
  rintro e w7 ⟨hb, rfl⟩
  have HS0' := Lib.hid (HS0.out.keep hb)
  clear HS0
  have HS0 := HS0'
  clear HS0'
  have HS3' := Lib.hid (HS3.out.keep hb)
  clear HS3
  have HS3 := HS3'
  clear HS3'
  have HS4' := Lib.hid (HS4.out.keep hb)
  clear HS4
  have HS4 := HS4'
  clear HS4'
  have HB7 := Lib.hid (Below.on HB6.out hb)
  clear hb HB6
  go_wp2_with fail
  refine (run_nil w7 2 [0] (r := none) (by show fine _ _ _ = false; decide +kernel) (by decide)).mono ?_
  rintro e w8 ⟨hb, rfl⟩
  have HS0' := Lib.hid (HS0.out.keep hb)
  clear HS0
  have HS0 := HS0'
  clear HS0'
  have HS3' := Lib.hid (HS3.out.keep hb)
  clear HS3
  have HS3 := HS3'
  clear HS3'
  have HS4' := Lib.hid (HS4.out.keep hb)
  clear HS4
  have HS4 := HS4'
  clear HS4'
  have HB8 := Lib.hid (Below.on HB7.out hb)
  clear hb HB7
  go_wp2_with fail
  refine (run_nil w8 1 [2] (r := none) (by show fine _ _ _ = false; decide +kernel) (by decide)).mono ?_
  rintro e w9 ⟨hb, rfl⟩
  have HS0' := Lib.hid (HS0.out.keep hb)
  clear HS0
  have HS0 := HS0'
  clear HS0'
  have HS3' := Lib.hid (HS3.out.keep hb)
  clear HS3
  have HS3 := HS3'
  clear HS3'
  have HS4' := Lib.hid (HS4.out.keep hb)
  clear HS4
  have HS4 := HS4'
  clear HS4'
  have HB9 := Lib.hid (Below.on HB8.out hb)
  clear hb HB8
  go_wp2_with fail
  refine (sameB (B := some ⟨w9.heap.size, 0, none⟩) (b := [1, 1, 1]) (HS0.out.keep (below_alloc w9 _)) (vals_at _ w9 3 [1, 1, 1]) (by decide) (by decide) (r := true) (by decide)).mono ?_
  rintro e w10 ⟨rfl, hb⟩
  have hb' := Below.on (below_alloc w9 _) hb
  have HS0' := Lib.hid (HS0.out.keep hb')
  clear HS0
  have HS0 := HS0'
  clear HS0'
  have HS3' := Lib.hid (HS3.out.keep hb')
  clear HS3
  have HS3 := HS3'
  clear HS3'
  have HS4' := Lib.hid (HS4.out.keep hb')
  clear HS4
  have HS4 := HS4'
  clear HS4'
  have HB10 := Lib.hid (Below.on HB9.out hb')
  clear hb hb' HB9
  go_wp2_with fail
  refine (sameB (B := some ⟨w10.heap.size, 0, none⟩) (b := [0, 0]) (HS3.out.keep (below_alloc w10 _)) (vals_at _ w10 3 [0, 0]) (by decide) (by decide) (r := true) (by decide)).mono ?_
  rintro e w11 ⟨rfl, hb⟩
  have hb' := Below.on (below_alloc w10 _) hb
  have HS0' := Lib.hid (HS0.out.keep hb')
  clear HS0
  have HS0 := HS0'
  clear HS0'
  have HS3' := Lib.hid (HS3.out.keep hb')
  clear HS3
  have HS3 := HS3'
  clear HS3'
  have HS4' := Lib.hid (HS4.out.keep hb')
  clear HS4
  have HS4 := HS4'
  clear HS4'
  have HB11 := Lib.hid (Below.on HB10.out hb')
  clear hb hb' HB10
  go_wp2_with fail
  refine (sameB (B := some ⟨w11.heap.size, 0, none⟩) (b := [-1, 1]) (HS4.out.keep (below_alloc w11 _)) (vals_at _ w11 3 [-1, 1]) (by decide) (by decide) (r := true) (by decide)).mono ?_
  rintro e w12 ⟨rfl, hb⟩
  have hb' := Below.on (below_alloc w11 _) hb
  have HS0' := Lib.hid (HS0.out.keep hb')
  clear HS0
  have HS0 := HS0'
  clear HS0'
  have HS3' := Lib.hid (HS3.out.keep hb')
  clear HS3
  have HS3 := HS3'
  clear HS3'
  have HS4' := Lib.hid (HS4.out.keep hb')
  clear HS4
  have HS4 := HS4'
  clear HS4'
  have HB12 := Lib.hid (Below.on HB11.out hb')
  clear hb hb' HB11
  go_wp2_with fail
  go_ret
  exact ⟨rfl, HB12.out⟩

theorem own : ownKnob Try.prog.godebug = none := by kernel_rfl
theorem cellsInt : Try.prog.cellsOf 3 = 1 := by kernel_rfl
set_option maxRecDepth 100000 in
theorem lifted (os : Os) (started : os.Started) (H : Type) (enc : TypeId × Value → H) :
    ReturnsInHanded {} Try.checked os 5 .any (Rows.unitKnownSpec.pre6 enc Try.prog Try.f5 Rows.unitKnownRow.domain false) (Rows.unitKnownSpec.post enc Try.prog Try.f5 false true false false) := by
  refine returnsInHanded_of_change (C := Try.checked) own started (by kernel_rfl) Try.func5
    (ChangeSpec.witness6 (enc := enc) (C := Try.checked) false ⟨#[], #[], []⟩ 8 (by kernel_rfl) (by kernel_rfl) (by kernel_rfl) (by kernel_rfl)) ?_
  intro W base args ds gs before hval0 hW hcnd _
  have hval : ∀ (j : Nat) t v, Try.f5.params[j]? = some t → args[j]? = some v → Value.okWide Try.prog W .any base t v := hval0
  have hW' := hW
  obtain ⟨p, q, hA0, hV, rfl, hfz, hnd⟩ := hW
  have hA : DataW.TrodAll enc Try.prog W 0 (fun _ => true) true Try.f5.params.toList args.toList ds p := hA0
  rw [Try.params5] at hA hval
  obtain ⟨rfl, rfl, rfl⟩ := trodAll_none hA
  obtain ⟨rfl, rfl⟩ := trodVars_none hV
  clear hA0 hval0
  simp only [List.append_nil] at hW'
  have hlt := hW'.lt
  refine (walk  W ).mono fun e W' ⟨he, hg⟩ => ?_
  subst he
  exact ⟨_, rfl, post_kept hW' hg (fun _ _ _ => (trodAll_cons_mk (shut_bool Try.underlying4 _) trodAll_mk0)) (fun sp hsp => rfl) (fun _ _ => rfl) (by first | rfl | simp)
    (ok_one (by kernel_rfl) rfl (okWide_bool_mk Try.underlying4 _))⟩

theorem over : Rows.unitKnownRow.holds Try.pinned (OpenSpec.ofChange Rows.unitKnownSpec) :=
  OpenClaim.holds_of_wide 5 Try.f5 rfl rfl rfl rfl rfl rfl rfl ⟨rfl, rfl, rfl, rfl, rfl⟩ rfl rfl rfl rfl rfl (by kernel_rfl) Try.func5 (by kernel_rfl)
    (of_decide_eq_true (by kernel_rfl)) (by unfold Func.isWrapper; first | (rw [if_pos (by decide +kernel)]; kernel_rfl) | (rw [if_neg (by decide +kernel)]; exact ⟨rfl, rfl⟩))
    (fun os started H enc _ => lifted os started H enc)

theorem proved : Rows.UnitKnownSaid :=
  over
#print axioms proved
end Go.Proofs.Ytigomnbcalpohaa.unitKnown
