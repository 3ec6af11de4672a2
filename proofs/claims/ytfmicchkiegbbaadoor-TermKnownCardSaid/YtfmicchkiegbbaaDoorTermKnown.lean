/-
  The law TermKnown: an arena by hand, with each refusal. It takes no input.
-/
import Derived.Test.YtfmicchkiegbbaaDoorTermX
import Derived.Test.YtfmicchkiegbbaaDoorCards
import Derived.SevenTiedAt
namespace Go.Proofs.YtfmicchkiegbbaaDoor.termKnown
open Go.ChangeShapes Go.WideShapes Go.ChangeAt Go.RowKit
set_option linter.unusedVariables false

theorem row_at {w : World} {base : Nat} {e : TypeId} {n : Nat} {v : Value} {xs : List Value} (h : w.ownsRow base e 1 v n xs) {i : Nat} {u : Value} (hu : xs[i]? = some u) :
    ∃ (g cap : Nat), v = .slice (some ⟨g, 0, none⟩) n cap ∧ g < w.heap.size ∧ n ≤ cap ∧ cap ≤ maxLen ∧ w.cell? ⟨g, i, none⟩ = some u := by
  have hl : i < n := by have := (List.getElem?_eq_some_iff.1 hu).1; have := h.1; omega
  rcases h.2 with ⟨_, h0⟩ | ⟨g, cap, cur, rfl, _, hh, hn, hc, hsz, ht⟩
  · omega
  · refine ⟨g, cap, rfl, lt_of_heap hh, hn, hc, ?_⟩
    have hx : Has w g e cur := hh
    rw [hx.cell, ← hu, ← ht, List.getElem?_take_of_lt (by omega)]
    simp
theorem nm4 : ¬ mayw 4 := by unfold mayw; omega
theorem nm9 : ¬ mayw 9 := by unfold mayw; omega

set_option maxHeartbeats 3200000 in
set_option maxRecDepth 100000 in
theorem walk  (w : World)  (hT : Tab w) (hpos : 0 < w.heap.size) :
    Calls Tryd.prog 4 #[] w fun e w' => e = .returned (.bool true) ∧ Below w.heap.size w w' := by
  go_enter Tryd.func4, Tryd.ntmps4
  go_wp2_with fail
  refine (awake_any _ hT hpos).mono ?_
  rintro e w1 ⟨rfl, hb⟩
  have HB1 := Lib.hid hb
  have HT := Lib.hid hT
  clear hb hT
  go_wp2_with fail
  refine (new_any _).mono ?_
  rintro e w2 ⟨rfl, ha, hb⟩
  have C := Lib.hid (Cur.of_new ha hb)
  clear ha hb
  go_wp2_with fail
  refine (const_no _ _ 4 1 nm4).mono ?_
  rintro e w' ⟨rfl, rfl⟩
  go_wp2_with fail
  refine (var_id _ _ 8 64 m8 (by omega)).mono ?_
  rintro e w' ⟨rfl, rfl⟩
  go_wp2_with fail
  refine (var_id _ _ 8 (-1) m8 (by omega)).mono ?_
  rintro e w' ⟨rfl, rfl⟩
  go_wp2_with fail
  refine (l_vari _ _ _ _ _ 8 3 C.out (by simp) m8 (by decide) (by decide) (fun i m hi => by simp at hi)).mono ?_
  rintro e w3 ⟨v, ns3, rfl, N, hv, nvv⟩
  have C := Lib.hid N.cur
  have HV := Lib.hid hv
  have L : Hid (ns3.length ≤ 1) := N.len
  clear N hv nvv
  go_wp2_with fail
  refine (e_varotheri C.out 16 3 m16 (by decide) (by decide) _ _ (nd_pos HV.out).2.2 rfl rfl (by decide)).mono ?_
  rintro e w4 ⟨rfl, hb⟩
  have C := Lib.hid (C.out.below hb)
  clear hb
  go_wp2_with fail
  refine (l_const _ _ _ _ _ 16 4464 C.out (by have := L.out; omega) m16 (by decide) (by decide)).mono ?_
  rintro e w5 ⟨k, ns5, rfl, N, hk, nvk⟩
  have C := Lib.hid N.cur
  have HV := Lib.hid (N.nd HV.out)
  have HK := Lib.hid hk
  have L : Hid (ns5.length ≤ 2) := by have := N.len; have := L.out; show ns5.length ≤ 2; omega
  clear N hk nvk
  go_wp2_with fail
  refine (l_const _ _ _ _ _ 1 1 C.out (by have := L.out; omega) m1 (by decide) (by decide)).mono ?_
  rintro e w6 ⟨b, ns6, rfl, N, hb, nvb⟩
  have C := Lib.hid N.cur
  have HV := Lib.hid (N.nd HV.out)
  have HK := Lib.hid (N.nd HK.out)
  have HBT := Lib.hid hb
  have L : Hid (ns6.length ≤ 3) := by have := N.len; have := L.out; show ns6.length ≤ 3; omega
  clear N hb nvb
  go_wp2_with fail
  refine (e_twowidth C.out 7 v k (by decide) (by decide) (isT_nd HV.out) (isT_nd HK.out) (by rw [wdt_of HV.out, wdt_of HK.out]; decide)).mono ?_
  rintro e w7 ⟨rfl, hb⟩
  have C := Lib.hid (C.out.below hb)
  clear hb
  go_wp2_with fail
  refine (two_op _ _ [] (fun _ => False) 3 v v (.inl (by decide))).mono ?_
  rintro e w' ⟨rfl, rfl⟩
  go_wp2_with fail
  refine (e_twonone C.out 7 v 0 (by decide) (by decide) (isT_nd HV.out) (by unfold isT; omega)).mono ?_
  rintro e w8 ⟨rfl, hb⟩
  have C := Lib.hid (C.out.below hb)
  clear hb
  go_wp2_with fail
  refine (e_ite C.out v v v (isT_nd HV.out) (isT_nd HV.out) (isT_nd HV.out) (.inl (by rw [wdt_of HV.out]; decide))).mono ?_
  rintro e w9 ⟨rfl, hb⟩
  have C := Lib.hid (C.out.below hb)
  clear hb
  go_wp2_with fail
  refine (e_ite C.out b v k (isT_nd HBT.out) (isT_nd HV.out) (isT_nd HK.out) (.inr (by rw [wdt_of HV.out, wdt_of HK.out]; decide))).mono ?_
  rintro e w10 ⟨rfl, hb⟩
  have C := Lib.hid (C.out.below hb)
  clear hb
  go_wp2_with fail
  refine (e_ext C.out 1 v (isT_nd HV.out) (.inr (by rw [wdt_of HV.out]; decide))).mono ?_
  rintro e w11 ⟨rfl, hb⟩
  have C := Lib.hid (C.out.below hb)
  clear hb
  go_wp2_with fail
  refine (e_cut C.out 16 v (isT_nd HV.out) (.inr (by rw [wdt_of HV.out]; decide))).mono ?_
  rintro e w12 ⟨rfl, hb⟩
  have C := Lib.hid (C.out.below hb)
  clear hb
  go_wp2_with fail
  refine (e_ext C.out 9 v (isT_nd HV.out) (.inl nm9)).mono ?_
  rintro e w13 ⟨rfl, hb⟩
  have C := Lib.hid (C.out.below hb)
  clear hb
  go_wp2_with fail
  refine (e_notnone C.out 999 (by have := L.out; unfold isT; omega)).mono ?_
  rintro e w14 ⟨rfl, hb⟩
  have C := Lib.hid (C.out.below hb)
  clear hb
  have HV0 := Lib.hid HV.out
  have HWF0 := Lib.hid C.out.wf
  go_wp2_with fail
  refine (l_ext _ _ _ _ _ 16 v C.out (by have := L.out; omega) m16 (isT_nd HV.out) (by rw [wdt_of HV.out]; decide)).mono ?_
  rintro e w15 ⟨x, ns15, rfl, N, hx⟩
  have C := Lib.hid N.cur
  have HV := Lib.hid (N.nd HV.out)
  have HK := Lib.hid (N.nd HK.out)
  have HBT := Lib.hid (N.nd HBT.out)
  have HXT := Lib.hid hx.t
  have HXW := Lib.hid hx.w
  have HXV : Hid (∀ env, V ns15 env x = low 16 (low 8 (env.getD 3 0))) := fun env => by rw [hx.v, V_var HWF0.out env HV0.out]; rfl
  have HXI : Hid (Iv ns15 x = 8) := by show Iv ns15 x = 8; rw [hx.i, Iv_of HWF0.out HV0.out]; rfl
  have L : Hid (ns15.length ≤ 4) := by have := N.len; have := L.out; show ns15.length ≤ 4; omega
  clear N hx
  go_wp2_with fail
  refine (l_cut _ _ _ _ _ 1 v C.out (by have := L.out; omega) m1 (isT_nd HV.out) (by rw [wdt_of HV.out]; decide)).mono ?_
  rintro e w16 ⟨y, ns16, rfl, N, hy⟩
  have C := Lib.hid N.cur
  have HV := Lib.hid (N.nd HV.out)
  have HK := Lib.hid (N.nd HK.out)
  have HBT := Lib.hid (N.nd HBT.out)
  have HYT := Lib.hid hy.t
  have HYW := Lib.hid hy.w
  have HXW := Lib.hid ((N.wdt HXT.out).trans HXW.out)
  have HXV : Hid (∀ env, V ns16 env x = low 16 (low 8 (env.getD 3 0))) := fun env => (N.V env HXT.out).trans (HXV.out env)
  have HXI := Lib.hid ((N.Iv HXT.out).trans HXI.out)
  have HXT := Lib.hid (N.isT HXT.out)
  have L : Hid (ns16.length ≤ 5) := by have := N.len; have := L.out; show ns16.length ≤ 5; omega
  clear N hy
  have HBV : Hid (∀ env, V ns16 env b = 1) := fun env => by rw [V_const C.out.wf env HBT.out rfl]; decide
  go_wp2_with fail
  refine (l_ite _ _ _ _ _ b x k C.out (by have := L.out; omega) (isT_nd HBT.out) HXT.out (isT_nd HK.out) (wdt_of HBT.out) (by rw [HXW.out, wdt_of HK.out])).mono ?_
  rintro e w17 ⟨z, ns17, rfl, N, hz⟩
  have C := Lib.hid N.cur
  have HV := Lib.hid (N.nd HV.out)
  have HZV : Hid (V ns17 [0, 0, 0, 300] z = 44) := by show V ns17 [0, 0, 0, 300] z = 44; rw [hz.v, HBV.out, if_pos rfl, HXV.out]; decide
  have HXW := Lib.hid ((N.wdt HXT.out).trans HXW.out)
  have HXI := Lib.hid ((N.Iv HXT.out).trans HXI.out)
  have HXT := Lib.hid (N.isT HXT.out)
  have HYW := Lib.hid ((N.wdt HYT.out).trans HYW.out)
  clear N hz
  go_wp2_with fail
  refine (r_known_no C.out v (by rintro ⟨m, hm, ho⟩; rw [HV.out] at hm; injection hm with hm; subst hm; cases ho)).mono ?_
  rintro e w18 ⟨rfl, hb⟩
  have C := Lib.hid (C.out.below hb)
  clear hb
  have HW1 := Lib.hid (r_width C.out x)
  rw [HXW.out] at HW1
  go_wp2_with fail
  refine (HW1.out).mono ?_
  rintro e w19 ⟨rfl, hb⟩
  have C := Lib.hid (C.out.below hb)
  clear hb
  have HW2 := Lib.hid (r_width C.out y)
  rw [HYW.out] at HW2
  go_wp2_with fail
  refine (HW2.out).mono ?_
  rintro e w20 ⟨rfl, hb⟩
  have C := Lib.hid (C.out.below hb)
  clear hb
  have HE := Lib.hid (r_eval (C.out.alloc (.cells #[.int .u16 0, .int .u16 0, .int .u16 0, .int .u16 300] 31)) (some ⟨w20.heap.size, 0, none⟩) 4 [0, 0, 0, 300] z (env_own (Has.new w20 31 #[.int .u16 0, .int .u16 0, .int .u16 0, .int .u16 300]) [0, 0, 0, 300] (fun i u hu => by
    match i, hu with
    | 0, hu => simpa using hu
    | 1, hu => simpa using hu
    | 2, hu => simpa using hu
    | 3, hu => simpa using hu) (by decide) (by decide)))
  rw [HZV.out] at HE
  go_wp2_with fail
  refine HE.out.mono ?_
  rintro e w21 ⟨rfl, hb⟩
  have C := Lib.hid ((C.out.alloc _).below hb)
  clear hb
  have HW3 := Lib.hid (r_width C.out 0)
  rw [wdt_none (x := 0) (by unfold isT; omega)] at HW3
  go_wp2_with fail
  refine (HW3.out).mono ?_
  rintro e w22 ⟨rfl, hb⟩
  have C := Lib.hid (C.out.below hb)
  clear hb
  have HE0 := Lib.hid (r_eval C.out none 0 [] 0 ⟨(fun i v hv => by simp at hv), (fun a ha => by cases ha), (fun v hv => by cases hv), (by simp)⟩)
  rw [V_none (x := 0) [] (by unfold isT; omega)] at HE0
  go_wp2_with fail
  refine (HE0.out).mono ?_
  rintro e w23 ⟨rfl, hb⟩
  have C := Lib.hid (C.out.below hb)
  clear hb
  have HVS := Lib.hid (r_vars C.out x HXT.out (HT.out.below (HB1.out.trans (C.out.below0.mono HB1.out.size)) hpos))
  rw [HXI.out, show bl 8 = [3] by decide] at HVS
  go_wp2_with fail
  refine HVS.out.mono ?_
  rintro e w24 ⟨A, cap, rfl, hown, hb⟩
  have C := Lib.hid (C.out.below hb)
  clear hb hown
  have HVS := Lib.hid (r_vars C.out x HXT.out (HT.out.below (HB1.out.trans (C.out.below0.mono HB1.out.size)) hpos))
  rw [HXI.out, show bl 8 = [3] by decide] at HVS
  go_wp2_with fail
  refine HVS.out.mono ?_
  rintro e w25 ⟨A2, cap2, rfl, hown, hb⟩
  obtain ⟨g, cap3, hA, hg, hc1, hc2, hcell⟩ := row_at hown (i := 0) (u := .int .i64 3) rfl
  have C := Lib.hid (C.out.below hb)
  clear hb hown
  injection hA with hA1 hA2 hA3
  subst hA1
  unfold maxLen at hc2
  go_wp2
  go_ret
  exact ⟨by simp, HB1.out.trans (C.out.below0.mono HB1.out.size)⟩

set_option maxRecDepth 100000 in
theorem lifted (os : Os) (started : os.Started) (H : Type) (enc : TypeId × Value → H) :
    ReturnsInHanded {} Tryd.checked os 4 .any (fun w args => (Rows.termKnownSpec.pre enc Tryd.prog Tryd.f4 [] false w args ∧ laidMetH Tryd.prog laidTab w) ∧ sizedMet enc Tryd.prog Tryd.f4 (OpenSpec.ofChange Rows.termKnownSpec) false w args)
      (Rows.termKnownSpec.post enc Tryd.prog Tryd.f4 false true false false) := by
  refine returnsInHanded_of_change_and (C := Tryd.checked) (X := fun w _ => laidMetH Tryd.prog laidTab w) (fun _ _ _ hh h => h.of_heap hh) ownDoor started (by kernel_rfl) Tryd.func4
    (ChangeSpec.witness_shaped (enc := enc) (C := Tryd.checked) (os := os) (X := fun w _ => laidMetH Tryd.prog laidTab w) false (World.doorLaid Tryd.prog 400 os) #[] 8 rfl (World.shaped_of_RefB (by kernel_rfl) (by kernel_rfl)) (by kernel_rfl) (by kernel_rfl) (by kernel_rfl) (door_met os _)) ?_
  intro W base args ds gs before hval0 hW _ hsz hL _
  have hval : ∀ (j : Nat) t v, Tryd.f4.params[j]? = some t → args[j]? = some v → Value.okWide Tryd.prog W .any base t v := hval0
  have hW' := hW
  obtain ⟨p, q, hA0, hV, rfl, hfz, hnd⟩ := hW
  have hA : DataW.TrodAll enc Tryd.prog W 0 (fun _ => true) true Tryd.f4.params.toList args.toList ds p := hA0
  rw [Tryd.params4] at hA hval
  obtain ⟨rfl, rfl, rfl⟩ := trodAll_none hA
  obtain ⟨rfl, rfl⟩ := trodVars_none hV
  obtain ⟨hT, hpos⟩ := of_laid hL
  clear hA0 hval0
  simp only [List.append_nil] at hW'
  refine (walk  W  hT hpos).mono fun e W' ⟨he, hg⟩ => ?_
  subst he
  exact ⟨_, rfl, post_kept (pa := []) (pv := []) hW' hg (fun _ _ _ => (trodAll_cons_mk (shut_bool Tryd.underlying4 _) trodAll_mk0)) (fun sp hsp => rfl) (fun _ _ => rfl) rfl
    (ok_one (by kernel_rfl) rfl (okWide_bool_mk Tryd.underlying4 _))⟩

theorem over : Rows.TermKnownSaid :=
  OpenClaim.holds_of_wide 4 Tryd.f4 rfl rfl rfl rfl rfl rfl rfl ⟨rfl, rfl, rfl, rfl, rfl⟩ rfl rfl rfl rfl rfl (by kernel_rfl) Tryd.func4 (by kernel_rfl)
    (of_decide_eq_true (by kernel_rfl)) (by unfold Func.isWrapper; first | (rw [if_pos (by decide +kernel)]; kernel_rfl) | (rw [if_neg (by decide +kernel)]; exact ⟨rfl, rfl⟩))
    (fun os started H enc _ => lifted os started H enc)

theorem proved : Rows.TermKnownCardSaid :=
  Claim7.holds_tied_plain_at .later [] [.data] true _ false
    over (fun _ h => by cases h) (by kernel_rfl) (fun _ h => by cases h) termKnown_row_tie rfl ⟨rfl, rfl⟩ (by kernel_rfl) rfl
    (fun f fn hf hfn => by
      obtain rfl : f = 4 := Option.some.inj ((show Tryd.prog.funcNamed "crossroads/crossroadslaw2.TermKnown" = some 4 by kernel_rfl).symm.trans hf) |>.symm
      obtain rfl : fn = Tryd.f4 := (Option.some.inj (Tryd.func4.symm.trans hfn)).symm
      exact ⟨by kernel_rfl, fun j t ht => by
        rw [Tryd.params4] at ht
        have hm : t ∈ ([] : List TypeId) := by simpa using Array.mem_of_getElem? ht
        have hall : (([] : List TypeId).all fun u => !Tryd.prog.wantsStandIn u) = true := by kernel_rfl
        exact (show Tryd.prog.wantsStandIn t = false by simpa using List.all_eq_true.1 hall t hm)⟩)
    (by kernel_rfl)
#print axioms proved
end Go.Proofs.YtfmicchkiegbbaaDoor.termKnown
