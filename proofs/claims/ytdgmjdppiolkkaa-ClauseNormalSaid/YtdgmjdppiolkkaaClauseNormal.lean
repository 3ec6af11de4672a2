/-
  The law ClauseNormal: for any literals and any truth values: without what stands twice, in order, or that they always hold; the same truth values make them hold. No condition.
-/
import Derived.Test.YtdgmjdppiolkkaaClauW
import Derived.Test.YtdgmjdppiolkkaaClauV
import Derived.ProofKit
namespace Go.Proofs.Ytdgmjdppiolkkaa.clauseNormal
open Go.ChangeShapes Go.WideShapes Go.ChangeAt Go.RowKit
set_option linter.unusedVariables false

theorem nrm_row {c : List Int} (h : taut (row c) = false) : nrm (row c) = (row c, false) := by unfold nrm; rw [row_row, h]; simp
theorem rnormB {A : Option Addr} {c : List Int} {cap : Nat} {w : World} (hc : SeqAt (Value.int .i64) w A c) (hw : ∀ l ∈ c, Wf l) (hn : c.length ≤ 10000) {p : List Int × Bool} (hp : nrm c = p) :
    Calls Try.prog 18 #[.slice A c.length cap] w (NormP p w) := by subst hp; exact rnormal_any A c cap w hc hw hn
theorem revalB {A : Option Addr} {f : List (List Int)} {fcap : Nat} {B : Option Addr} {m : List Bool} {cap : Nat} {w : World} (hf : FormAt w A f) (hn : f.length ≤ 9223372036854775807) (hm : SeqAt Value.bool w B m) (hl : m.length ≤ 9223372036854775807) {r : Bool} (hr : evalM m f = r) :
    Calls Try.prog 14 #[.slice A f.length fcap, .slice B m.length cap] w fun e w' => e = .returned (.bool r) ∧ w = w' := by subst hr; exact reval_any A f fcap B m cap w hf hn hm hl
set_option maxHeartbeats 1600000 in
theorem walk (v0 v1 : Value) (w : World) (h0 : IntsIn w v0) (h1 : BoolsIn w v1) :
    Calls Try.prog 4 #[v0, v1] w fun e w' => e = .returned (.bool true) ∧ Below w.heap.size w w' := by
  obtain ⟨A, c, cap, rfl, hs, hl, hw⟩ := h0
  obtain ⟨B, m, mcap, rfl, hm, hml⟩ := h1
  have HS := Lib.hid hs
  have HM := Lib.hid hm
  have HW := Lib.hid hw
  clear hs hm hw
  by_cases hc : (300 : Int) < (c.length : Int)
  · go_enter Try.func4, Try.ntmps4
    go_wp2_with fail
    refine (awake_any _).mono ?_
    rintro e w1 ⟨rfl, hb⟩
    go_wp2_with fail
    go_ret
    exact ⟨rfl, hb⟩
  have hc' : (c.length : Int) ≤ 300 := by omega
  clear hc
  by_cases hc : (1000 : Int) < (m.length : Int)
  · go_enter Try.func4, Try.ntmps4
    go_wp2_with fail
    refine (awake_any _).mono ?_
    rintro e w1 ⟨rfl, hb⟩
    go_wp2_with fail
    go_ret
    exact ⟨rfl, hb⟩
  have hm' : (m.length : Int) ≤ 1000 := by omega
  clear hc
  cases ht : taut (row c) with
  | true =>
    have HN := Lib.hid (nrm_yes ht)
    clear ht
    go_enter Try.func4, Try.ntmps4
    go_wp2_with fail
    refine (awake_any _).mono ?_
    rintro e w1 ⟨rfl, hb1⟩
    have HB1 := Lib.hid hb1
    clear hb1
    go_wp2_with fail
    refine (normB (HS.out.keep HB1.out) HW.out (by omega) HN.out).mono ?_
    rintro e w2 ⟨A2, cap2, rfl, hs2, hb2⟩
    have HB2 := Lib.hid (Below.on HB1.out hb2)
    have HS2 := Lib.hid hs2
    clear hs2 hb2
    go_wp2_with fail
    refine (rnormB (HS.out.keep HB2.out) HW.out (by omega) HN.out).mono ?_
    rintro e w3 ⟨A3, cap3, rfl, hs3, hb3⟩
    have HB3 := Lib.hid (Below.on HB2.out hb3)
    have HS3 := Lib.hid hs3
    have HS2' := Lib.hid (HS2.out.keep hb3)
    clear hs3 hb3
    go_wp2_with fail
    refine (sameB HS2'.out HS3.out (by decide) (by decide) (r := true) (by decide)).mono ?_
    rintro e w4 ⟨rfl, hb4⟩
    have HB4 := Lib.hid (Below.on HB3.out hb4)
    clear hb4
    go_wp2_with fail
    go_ret
    exact ⟨rfl, HB4.out⟩
  | false =>
    have HN := Lib.hid (nrm_no ht)
    have HN2 := Lib.hid (nrm_row ht)
    have HL := Lib.hid (show (row c).length ≤ 300 from Nat.le_trans (row_len c) (by omega))
    have HWR := Lib.hid (show ∀ x ∈ row c, Wf x from fun x hx => HW.out x (row_mem hx))
    have HEV := Lib.hid (show evalM m [row c] = evalM m [c] by unfold evalM; simp [evalC_row])
    clear ht
    go_enter Try.func4, Try.ntmps4
    go_wp2_with fail
    refine (awake_any _).mono ?_
    rintro e w1 ⟨rfl, hb1⟩
    have HB1 := Lib.hid hb1
    clear hb1
    go_wp2_with fail
    refine (normB (HS.out.keep HB1.out) HW.out (by omega) HN.out).mono ?_
    rintro e w2 ⟨A2, cap2, rfl, hs2, hb2⟩
    have HB2 := Lib.hid (Below.on HB1.out hb2)
    have HS2 := Lib.hid hs2
    clear hs2 hb2
    go_wp2_with fail
    refine (rnormB (HS.out.keep HB2.out) HW.out (by omega) HN.out).mono ?_
    rintro e w3 ⟨A3, cap3, rfl, hs3, hb3⟩
    have HB3 := Lib.hid (Below.on HB2.out hb3)
    have HS3 := Lib.hid hs3
    have HS2' := Lib.hid (HS2.out.keep hb3)
    clear hs3 hb3
    have hrl := HL.out
    dsimp only at HS2' HS3 ⊢
    generalize row c = r at *
    go_wp2_with fail
    refine (sameB HS2'.out HS3.out (by omega) (by omega) (r := true) (by simp)).mono ?_
    rintro e w4 ⟨rfl, hb4⟩
    have HB4 := Lib.hid (Below.on HB3.out hb4)
    have HS4 := Lib.hid (HS2'.out.keep hb4)
    clear hb4
    go_wp2_with fail
    refine (normB HS4.out HWR.out (by omega) HN2.out).mono ?_
    rintro e w5 ⟨A5, cap5, rfl, hs5, hb5⟩
    have HB5 := Lib.hid (Below.on HB4.out hb5)
    have HS5 := Lib.hid hs5
    have HS4' := Lib.hid (HS4.out.keep hb5)
    clear hs5 hb5
    go_wp2_with fail
    refine (sameB HS5.out HS4'.out (by show r.length ≤ _; omega) (by omega) (r := true) (by simp)).mono ?_
    rintro e w6 ⟨rfl, hb6⟩
    have HB6 := Lib.hid (Below.on HB5.out hb6)
    have HS6 := Lib.hid (HS4'.out.keep hb6)
    clear hb6
    go_wp2_with fail
    refine (revalB (one_form 27 rfl HS6.out (by omega) HWR.out) (by simp) (HM.out.keep (Below.plus HB6.out _)) hml HEV.out).mono ?_
    rintro e w7 ⟨rfl, rfl⟩
    go_wp2_with fail
    refine (revalB (one_form 27 (by simp) (HS.out.keep (Below.plus HB6.out _)) (by omega) HW.out) (by simp) (HM.out.keep (Below.plus (Below.plus HB6.out _) _)) hml rfl).mono ?_
    rintro e w7 ⟨rfl, rfl⟩
    go_wp2_with fail
    go_ret
    exact ⟨by first | rfl | (refine ret_bool ?_; simp), Below.plus (Below.plus HB6.out _) _⟩

theorem own : ownKnob Try.prog.godebug = none := by kernel_rfl
theorem cellsInt : Try.prog.cellsOf 3 = 1 := by kernel_rfl
theorem cellsBool : Try.prog.cellsOf 4 = 1 := by kernel_rfl
set_option maxRecDepth 100000 in
theorem lifted (os : Os) (started : os.Started) (H : Type) (enc : TypeId × Value → H) :
    ReturnsInHanded {} Try.checked os 4 .any (Rows.clauseNormalSpec.pre6 enc Try.prog Try.f4 Rows.clauseNormalRow.domain false) (Rows.clauseNormalSpec.post enc Try.prog Try.f4 false true false false) := by
  refine returnsInHanded_of_change (C := Try.checked) own started (by kernel_rfl) Try.func4
    (ChangeSpec.witness6 (enc := enc) (C := Try.checked) false ⟨#[], #[.slice none 0 0, .slice none 0 0], []⟩ 8 (by kernel_rfl) (by kernel_rfl) (by kernel_rfl) (by kernel_rfl)) ?_
  intro W base args ds gs before hval0 hW hcnd _
  have hval : ∀ (j : Nat) t v, Try.f4.params[j]? = some t → args[j]? = some v → Value.okWide Try.prog W .any base t v := hval0
  have hW' := hW
  obtain ⟨p, q, hA0, hV, rfl, hfz, hnd⟩ := hW
  have hA : DataW.TrodAll enc Try.prog W 0 (fun _ => true) true Try.f4.params.toList args.toList ds p := hA0
  rw [Try.params4] at hA hval
  obtain ⟨v0, vs0, d0, ds0, p0, q0, hargs, rfl, rfl, h0, r0⟩ := trodAll_cons hA
  obtain ⟨v1, vs1, d1, ds1, p1, q1, rfl, rfl, rfl, h1, r1⟩ := trodAll_cons r0
  obtain ⟨rfl, rfl, rfl⟩ := trodAll_nil r1
  obtain rfl : args = #[v0, v1] := by cases args; simp_all
  obtain ⟨rfl, rfl⟩ := trodVars_none hV
  have w0 : IntsIn W v0 := ints_open Try.underlying27 Try.underlying3 cellsInt (hval 0 27 v0 rfl rfl) h0
  have w1 : BoolsIn W v1 := bools_open Try.underlying23 Try.underlying4 cellsBool (hval 1 23 v1 rfl rfl) h1
  clear hA0 hval0
  simp only [List.append_nil] at hW'
  have hlt := hW'.lt
  refine (walk v0 v1 W w0 w1).mono fun e W' ⟨he, hg⟩ => ?_
  subst he
  exact ⟨_, rfl, post_kept hW' hg (fun _ _ _ => (trodAll_cons_mk (shut_bool Try.underlying4 _) trodAll_mk0)) (fun sp hsp => (trodAll_cons_mk (WideElems.Trod_stays laidOut (by kernel_rfl) (of_decide_eq_true (by kernel_rfl)) h0 (fun x hx => hg.same (hlt x (by first | exact hx | (simp; first | exact .inl hx | exact .inr hx | exact hx | exact .inr (.inl hx) | exact .inr (.inr hx))))) (fun x hx => hsp x (by first | exact hx | (simp; first | exact .inl hx | exact .inr hx | exact hx | exact .inr (.inl hx) | exact .inr (.inr hx))))) (trodAll_cons_mk (WideElems.Trod_stays laidOut (by kernel_rfl) (of_decide_eq_true (by kernel_rfl)) h1 (fun x hx => hg.same (hlt x (by first | exact hx | (simp; first | exact .inl hx | exact .inr hx | exact hx | exact .inr (.inl hx) | exact .inr (.inr hx))))) (fun x hx => hsp x (by first | exact hx | (simp; first | exact .inl hx | exact .inr hx | exact hx | exact .inr (.inl hx) | exact .inr (.inr hx))))) trodAll_mk0))) (fun _ _ => rfl) (by simp)
    (ok_one (by kernel_rfl) rfl (okWide_bool_mk Try.underlying4 _))⟩

theorem over : Rows.clauseNormalRow.holds Try.pinned (OpenSpec.ofChange Rows.clauseNormalSpec) :=
  OpenClaim.holds_of_wide 4 Try.f4 rfl rfl rfl rfl rfl rfl rfl ⟨rfl, rfl, rfl, rfl, rfl⟩ rfl rfl rfl rfl rfl (by kernel_rfl) Try.func4 (by kernel_rfl)
    (of_decide_eq_true (by kernel_rfl)) (by unfold Func.isWrapper; first | (rw [if_pos (by decide +kernel)]; kernel_rfl) | (rw [if_neg (by decide +kernel)]; exact ⟨rfl, rfl⟩))
    (fun os started H enc _ => lifted os started H enc)

theorem proved : Rows.ClauseNormalSaid :=
  over
#print axioms proved
end Go.Proofs.Ytdgmjdppiolkkaa.clauseNormal
