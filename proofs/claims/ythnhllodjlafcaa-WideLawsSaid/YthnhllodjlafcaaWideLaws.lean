/-
  The law WideLaws: for every width that may be and any two numbers, sums and products do not hang on the order, a difference and what was taken is what there was, quotient and rest make the number again, just one of less, more and equal holds, and twice the other bits or all bits turned twice is the number. No condition.
-/
import Derived.Test.YthnhllodjlafcaaRef
import Derived.ProofKit
import Derived.BigGuard
import Derived.OpenShut
namespace Go.Proofs.Ythnhllodjlafcaa.wideLaws
open Go.ChangeShapes Go.WideShapes Go.ChangeAt Go.RowKit
set_option linter.unusedVariables false

theorem own : ownKnob Try.prog.godebug = none := by kernel_rfl

theorem closure (a0 op x y : Int) (p : Addr) (W : World) (hc : W.cell? p = some (.int .i64 a0)) (hw : mayw a0) (h0 : 3 ≤ op) (h1 : op ≤ 15) (hx0 : 0 ≤ x) (hx1 : x ≤ 65535) (hy0 : 0 ≤ y) (hy1 : y ≤ 65535) :
    Calls Try.prog 19 #[.int .i64 op, .int .u16 x, .int .u16 y, .pointer (some p)] W fun e W' => e = .returned (.int .u16 (doM op a0 (low a0 x) (low a0 y))) ∧ W = W' := by
  have c := fun W => do_yes op a0 x y W hw h0 h1 hx0 hx1 hy0 hy1
  go_enter Try.func19, Try.ntmps19
  go_wp2_with (first | (go_at_call 10; ((with_reducible refine (c _).mono ?_); rintro e w' ⟨rfl, rfl⟩)))
  go_ret
  exact ⟨rfl, rfl⟩

set_option maxHeartbeats 2000000 in
theorem core_z (a0 a1 a2 A B M : Int) (D : Int → Int → Int → Int) (w : World) (b10 : 0 ≤ a1) (b11 : a1 ≤ 65535) (b20 : 0 ≤ a2) (b21 : a2 ≤ 65535)
    (cMay : ∀ W, Calls Try.prog 14 #[.int .i64 a0] W fun e W' => e = .returned (.bool true) ∧ W = W')
    (cMask : ∀ W, Calls Try.prog 16 #[.int .i64 a0] W fun e W' => e = .returned (.int .u16 M) ∧ W = W')
    (K : Hid (∀ op x y : Int, 3 ≤ op → op ≤ 15 → 0 ≤ x → x ≤ 65535 → 0 ≤ y → y ≤ 65535 →
        Calls Try.prog 19 #[.int .i64 op, .int .u16 x, .int .u16 y, .pointer (some ⟨w.heap.size, 0, none⟩)] (w.alloc (.cells #[.int .i64 a0] 3)) fun e W' => e = .returned (.int .u16 (D op x y)) ∧ (w.alloc (.cells #[.int .i64 a0] 3)) = W'))
    (d10 : 0 ≤ D 8 a1 a2) (d11 : D 8 a1 a2 ≤ 65535) (d20 : 0 ≤ D 10 a1 a2) (d21 : D 10 a1 a2 ≤ 65535) (d30 : 0 ≤ D 9 (D 10 a1 a2) a2) (d31 : D 9 (D 10 a1 a2) a2 ≤ 65535)
    (d40 : 0 ≤ D 11 a1 a2) (d41 : D 11 a1 a2 ≤ 65535) (d50 : 0 ≤ D 6 a1 a2) (d51 : D 6 a1 a2 ≤ 65535) (d60 : 0 ≤ D 3 a1 0) (d61 : D 3 a1 0 ≤ 65535)
    (hA : bits .and .u16 a1 M = A) (hB : bits .and .u16 a2 M = B) (hz : (B == 0) = true)
    (f1 : (D 7 a1 a2 == D 7 a2 a1) = true) (f2 : (D 9 a1 a2 == D 9 a2 a1) = true) (f3 : (D 7 (D 8 a1 a2) a2 == A) = true)
    (f5 : (IntKind.u16.wrap (IntKind.u16.wrap (D 15 a1 a2 + D 15 a2 a1) + D 14 a1 a2) == 1) = true)
    (f6 : (D 6 (D 6 a1 a2) a2 == A) = true) (f7 : (D 3 (D 3 a1 0) 0 == A) = true) :
    Calls Try.prog 5 #[.int .i64 a0, .int .u16 a1, .int .u16 a2] w fun e w' => e = .returned (.bool true) ∧ Grown w w' := by
  go_enter Try.func5, Try.ntmps5
  dsimp only [List.append]
  go_wp2_with (first | (go_at_call 9; ((with_reducible refine (awake_any _).mono ?_); rintro e w' ⟨rfl, rfl⟩)) | (go_at_call 14; ((with_reducible refine (cMay _).mono ?_); rintro e w' ⟨rfl, rfl⟩)) | (go_at_call 16; ((with_reducible refine (cMask _).mono ?_); rintro e w' ⟨rfl, rfl⟩)) | (go_at_call 19; ((with_reducible refine (K.out _ _ _ (by decide) (by decide) (by first | assumption | decide) (by first | assumption | decide) (by first | assumption | decide) (by first | assumption | decide)).mono ?_); rintro e w' ⟨rfl, rfl⟩)))
  go_ret
  exact ⟨by first | rfl | simp_all, by repeat (first | exact Grown.refl _ | apply Grown.drew | apply Grown.alloc)⟩

set_option maxHeartbeats 2000000 in
theorem core_n (a0 a1 a2 A B M : Int) (D : Int → Int → Int → Int) (w : World) (b10 : 0 ≤ a1) (b11 : a1 ≤ 65535) (b20 : 0 ≤ a2) (b21 : a2 ≤ 65535)
    (cMay : ∀ W, Calls Try.prog 14 #[.int .i64 a0] W fun e W' => e = .returned (.bool true) ∧ W = W')
    (cMask : ∀ W, Calls Try.prog 16 #[.int .i64 a0] W fun e W' => e = .returned (.int .u16 M) ∧ W = W')
    (K : Hid (∀ op x y : Int, 3 ≤ op → op ≤ 15 → 0 ≤ x → x ≤ 65535 → 0 ≤ y → y ≤ 65535 →
        Calls Try.prog 19 #[.int .i64 op, .int .u16 x, .int .u16 y, .pointer (some ⟨w.heap.size, 0, none⟩)] (w.alloc (.cells #[.int .i64 a0] 3)) fun e W' => e = .returned (.int .u16 (D op x y)) ∧ (w.alloc (.cells #[.int .i64 a0] 3)) = W'))
    (d10 : 0 ≤ D 8 a1 a2) (d11 : D 8 a1 a2 ≤ 65535) (d20 : 0 ≤ D 10 a1 a2) (d21 : D 10 a1 a2 ≤ 65535) (d30 : 0 ≤ D 9 (D 10 a1 a2) a2) (d31 : D 9 (D 10 a1 a2) a2 ≤ 65535)
    (d40 : 0 ≤ D 11 a1 a2) (d41 : D 11 a1 a2 ≤ 65535) (d50 : 0 ≤ D 6 a1 a2) (d51 : D 6 a1 a2 ≤ 65535) (d60 : 0 ≤ D 3 a1 0) (d61 : D 3 a1 0 ≤ 65535)
    (hA : bits .and .u16 a1 M = A) (hB : bits .and .u16 a2 M = B) (hz : (B == 0) = false)
    (f1 : (D 7 a1 a2 == D 7 a2 a1) = true) (f2 : (D 9 a1 a2 == D 9 a2 a1) = true) (f3 : (D 7 (D 8 a1 a2) a2 == A) = true)
    (f5 : (IntKind.u16.wrap (IntKind.u16.wrap (D 15 a1 a2 + D 15 a2 a1) + D 14 a1 a2) == 1) = true)
    (f6 : (D 6 (D 6 a1 a2) a2 == A) = true) (f7 : (D 3 (D 3 a1 0) 0 == A) = true) (f4 : (D 7 (D 9 (D 10 a1 a2) a2) (D 11 a1 a2) == A) = true) (f8 : D 11 a1 a2 < B) :
    Calls Try.prog 5 #[.int .i64 a0, .int .u16 a1, .int .u16 a2] w fun e w' => e = .returned (.bool true) ∧ Grown w w' := by
  go_enter Try.func5, Try.ntmps5
  dsimp only [List.append]
  go_wp2_with (first | (go_at_call 9; ((with_reducible refine (awake_any _).mono ?_); rintro e w' ⟨rfl, rfl⟩)) | (go_at_call 14; ((with_reducible refine (cMay _).mono ?_); rintro e w' ⟨rfl, rfl⟩)) | (go_at_call 16; ((with_reducible refine (cMask _).mono ?_); rintro e w' ⟨rfl, rfl⟩)) | (go_at_call 19; ((with_reducible refine (K.out _ _ _ (by decide) (by decide) (by first | assumption | decide) (by first | assumption | decide) (by first | assumption | decide) (by first | assumption | decide)).mono ?_); rintro e w' ⟨rfl, rfl⟩)))
  go_ret
  exact ⟨by first | rfl | simp_all, by repeat (first | exact Grown.refl _ | apply Grown.drew | apply Grown.alloc)⟩

theorem walk (a0 : Int) (a1 : Int) (a2 : Int) (w0 : (Lit.int .i64 a0).wf = true) (w1 : (Lit.int .u16 a1).wf = true) (w2 : (Lit.int .u16 a2).wf = true) (w : World) :
    Calls Try.prog 5 #[.int .i64 a0, .int .u16 a1, .int .u16 a2] w fun e w' => e = .returned (.bool true) ∧ Grown w w' := by
  obtain ⟨b10, b11⟩ := bounds_u16 w1
  obtain ⟨b20, b21⟩ := bounds_u16 w2
  by_cases hw : mayw a0
  · have hA : bits .and .u16 a1 (mask a0) = low a0 a1 := u16_mask hw a1 b10 b11
    have hB : bits .and .u16 a2 (mask a0) = low a0 a2 := u16_mask hw a2 b20 b21
    have f1 := beq_of (law_add a0 (low a0 a1) (low a0 a2))
    have f2 := beq_of (law_mul a0 (low a0 a1) (low a0 a2))
    have f3 := beq_of (law_sub hw a1 a2)
    have f5 := beq_of (law_one a0 (low a0 a1) (low a0 a2))
    have f6 := beq_of (law_xor hw a1 a2)
    have f7 := beq_of (law_not hw a1 (low a0 0) (low a0 0))
    have k : ∀ op x y : Int, 3 ≤ op → op ≤ 15 → 0 ≤ x → x ≤ 65535 → 0 ≤ y → y ≤ 65535 →
        Calls Try.prog 19 #[.int .i64 op, .int .u16 x, .int .u16 y, .pointer (some ⟨w.heap.size, 0, none⟩)] (w.alloc (.cells #[.int .i64 a0] 3)) fun e W' => e = .returned (.int .u16 (doM op a0 (low a0 x) (low a0 y))) ∧ (w.alloc (.cells #[.int .i64 a0] 3)) = W' :=
      fun op x y h0 h1 hx0 hx1 hy0 hy1 => closure a0 op x y _ _ (World.cell?_alloc_new _ _ _ _) hw h0 h1 hx0 hx1 hy0 hy1
    have pb := (pw_bd hw).2
    have bd0 : ∀ op x y : Int, 0 ≤ doM op a0 (low a0 x) (low a0 y) := fun op x y => (doM_bd hw op x y).1
    have bd1 : ∀ op x y : Int, doM op a0 (low a0 x) (low a0 y) ≤ 65535 := fun op x y => by have := doM_bd hw op x y; omega
    by_cases hz : low a0 a2 = 0
    · exact core_z a0 a1 a2 _ _ _ (fun op x y => doM op a0 (low a0 x) (low a0 y)) w b10 b11 b20 b21 (fun W => rmay_yes _ W hw) (fun W => rmask_yes _ W hw) (Lib.hid k)
        (bd0 _ _ _) (bd1 _ _ _) (bd0 _ _ _) (bd1 _ _ _) (bd0 _ _ _) (bd1 _ _ _) (bd0 _ _ _) (bd1 _ _ _) (bd0 _ _ _) (bd1 _ _ _) (bd0 _ _ _) (bd1 _ _ _)
        hA hB (beq_of hz) f1 f2 f3 f5 f6 f7
    · obtain ⟨f4, f8⟩ := law_div hw a1 a2 hz
      exact core_n a0 a1 a2 _ _ _ (fun op x y => doM op a0 (low a0 x) (low a0 y)) w b10 b11 b20 b21 (fun W => rmay_yes _ W hw) (fun W => rmask_yes _ W hw) (Lib.hid k)
        (bd0 _ _ _) (bd1 _ _ _) (bd0 _ _ _) (bd1 _ _ _) (bd0 _ _ _) (bd1 _ _ _) (bd0 _ _ _) (bd1 _ _ _) (bd0 _ _ _) (bd1 _ _ _) (bd0 _ _ _) (bd1 _ _ _)
        hA hB (by simpa using hz) f1 f2 f3 f5 f6 f7 (beq_of f4) f8
  · go_enter Try.func5, Try.ntmps5
    go_wp2_with (first | (go_at_call 9; ((with_reducible refine (awake_any _).mono ?_); rintro e w' ⟨rfl, rfl⟩)) | (go_at_call 14; ((with_reducible refine (rmay_no _ _ hw).mono ?_); rintro e w' ⟨rfl, rfl⟩)))
    go_ret
    exact ⟨rfl, by repeat (first | exact Grown.refl _ | apply Grown.drew | apply Grown.alloc)⟩

set_option maxRecDepth 100000 in
theorem lifted (os : Os) (started : os.Started) (H : Type) (enc : TypeId × Value → H) :
    ReturnsInHanded {} Try.checked os 5 .any (Rows.wideLawsSpec.pre6 enc Try.prog Try.f5 Rows.wideLawsRow.domain false) (Rows.wideLawsSpec.post enc Try.prog Try.f5 false true false false) := by
  refine returnsInHanded_of_change (C := Try.checked) own started (by kernel_rfl) Try.func5
    (ChangeSpec.witness6 (enc := enc) (C := Try.checked) false ⟨#[], #[.int .i64 0, .int .u16 0, .int .u16 0], []⟩ 8 (by kernel_rfl) (by kernel_rfl) (by kernel_rfl) (by kernel_rfl)) ?_
  intro W base args ds gs before hval0 hW hcnd _
  have hval : ∀ (j : Nat) t v, Try.f5.params[j]? = some t → args[j]? = some v → Value.okWide Try.prog W .any base t v := hval0
  have hW' := hW
  obtain ⟨p, q, hA0, hV, rfl, hfz, hnd⟩ := hW
  have hA : DataW.TrodAll enc Try.prog W 0 (fun _ => true) true Try.f5.params.toList args.toList ds p := hA0
  rw [Try.params5] at hA hval
  obtain ⟨v0, vs0, d0, ds0, p0, q0, hargs, rfl, rfl, h0, r0⟩ := trodAll_cons hA
  obtain ⟨v1, vs1, d1, ds1, p1, q1, rfl, rfl, rfl, h1, r1⟩ := trodAll_cons r0
  obtain ⟨v2, vs2, d2, ds2, p2, q2, rfl, rfl, rfl, h2, r2⟩ := trodAll_cons r1
  obtain ⟨rfl, rfl, rfl⟩ := trodAll_nil r2
  obtain rfl : args = #[v0, v1, v2] := by cases args; simp_all
  obtain ⟨rfl, rfl⟩ := trodVars_none hV
  obtain ⟨a0, rfl, rfl, rfl, w0⟩ := open_int Try.underlying3 (hval 0 3 v0 rfl rfl) h0
  obtain ⟨a1, rfl, rfl, rfl, w1⟩ := open_int Try.underlying22 (hval 1 22 v1 rfl rfl) h1
  obtain ⟨a2, rfl, rfl, rfl, w2⟩ := open_int Try.underlying22 (hval 2 22 v2 rfl rfl) h2
  clear hA0 hval0
  simp only [List.append_nil] at hW'
  refine (walk a0 a1 a2 w0 w1 w2 W).mono fun e W' ⟨he, hg⟩ => ?_
  subst he
  exact ⟨_, rfl, post_of_same (pa := []) (pv := []) hW' (fun _ _ _ => (trodAll_cons_mk (shut_bool Try.underlying4 _) trodAll_mk0)) (fun sp _ => (trodAll_cons_mk (shut_int Try.underlying3 w0) (trodAll_cons_mk (shut_int Try.underlying22 w1) (trodAll_cons_mk (shut_int Try.underlying22 w2) trodAll_mk0)))) (fun _ _ => rfl) rfl
    (hg.frame _) hg.2.1 (ok_one (by kernel_rfl) rfl (okWide_bool_mk Try.underlying4 _))⟩

theorem over : Rows.wideLawsRow.holds Try.pinned (OpenSpec.ofChange Rows.wideLawsSpec) :=
  OpenClaim.holds_of_wide 5 Try.f5 rfl rfl rfl rfl rfl rfl rfl ⟨rfl, rfl, rfl, rfl, rfl⟩ rfl rfl rfl rfl rfl (by kernel_rfl) Try.func5 (by kernel_rfl)
    (of_decide_eq_true (by kernel_rfl)) (by unfold Func.isWrapper; first | (rw [if_pos (by decide +kernel)]; kernel_rfl) | (rw [if_neg (by decide +kernel)]; exact ⟨rfl, rfl⟩))
    (fun os started H enc _ => lifted os started H enc)

theorem proved : Rows.WideLawsSaid :=
  over
#print axioms proved
end Go.Proofs.Ythnhllodjlafcaa.wideLaws
