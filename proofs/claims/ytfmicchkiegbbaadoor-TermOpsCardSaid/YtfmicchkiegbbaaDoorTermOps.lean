/-
  The law TermOps: each operator on two variables, of any width and numbers, has the value that numbers have. No condition.
-/
import Derived.Test.YtfmicchkiegbbaaDoorTermX
import Derived.Test.YtfmicchkiegbbaaDoorCards
import Derived.SevenTiedAt
namespace Go.Proofs.YtfmicchkiegbbaaDoor.termOps
open Go.ChangeShapes Go.WideShapes Go.ChangeAt Go.RowKit
set_option linter.unusedVariables false

theorem cellsA2 : Tryd.prog.cellsOf 55 = 2 := by kernel_rfl
theorem cellsE2 : Tryd.prog.cellsOf 31 = 1 := by kernel_rfl
theorem list2 {α : Type} (l : List α) (h : (⟨l⟩ : Array α).size = 2) : ∃ v0 v1, l = [v0, v1] := by
  match l, h with | [v0, v1], _ => exact ⟨v0, v1, rfl⟩
theorem list2' {α : Type} (l : List α) (h : l.length = 2) : ∃ v0 v1, l = [v0, v1] := by
  match l, h with | [v0, v1], _ => exact ⟨v0, v1, rfl⟩

set_option maxHeartbeats 1000000 in
set_option maxRecDepth 100000 in
theorem walk (a0 : Int) (a1 : Int) (a2_0 a2_1 : Int) (w : World) (w0 : (Lit.int .i64 a0).wf = true) (w1 : (Lit.int .i64 a1).wf = true) (w2_0 : (Lit.int .u16 a2_0).wf = true) (w2_1 : (Lit.int .u16 a2_1).wf = true) (hT : Tab w) (hpos : 0 < w.heap.size) :
    Calls Tryd.prog 6 #[.int .i64 a0, .int .i64 a1, .agg #[.int .u16 a2_0, .int .u16 a2_1]] w fun e w' => e = .returned (.bool true) ∧ Below w.heap.size w w' := by
  obtain ⟨n00, n01⟩ := bounds_u16 w2_0
  obtain ⟨n10, n11⟩ := bounds_u16 w2_1
  have HBX := Lib.hid (Has.new w 55 #[.int .u16 a2_0, .int .u16 a2_1])
  have HT1 := Lib.hid (hT.below (((Below.refl w.heap.size w).alloc (Nat.le_refl _) (.cells #[.int .u16 a2_0, .int .u16 a2_1] 55))) hpos)
  clear w0 w1 w2_0 w2_1 hT
  by_cases hr : 4 ≤ a0 ∧ a0 ≤ 15 ∧ mayw a1
  · obtain ⟨h4, h15, hm⟩ := hr
    go_enter Tryd.func6, Tryd.ntmps6
    go_wp2_with fail
    refine (awake_any _ HT1.out (by simp)).mono ?_
    rintro e w1 ⟨rfl, hb⟩
    have HB1 := Lib.hid (((Below.refl w.heap.size w).alloc (Nat.le_refl _) _).trans (hb.mono (by simp)))
    have HX1 := Lib.hid (HBX.out.same (hb.block _ HBX.out.lt))
    clear hb
    go_wp2_with fail
    refine (rmay_yes _ _ hm).mono ?_
    rintro e w' ⟨rfl, rfl⟩
    go_wp2_with fail
    refine (new_any _).mono ?_
    rintro e w2 ⟨rfl, ha, hb⟩
    have C2 := Lib.hid (Cur.of_new ha hb)
    clear ha hb
    go_wp2_with fail
    refine (l_vari _ _ _ _ _ a1 0 C2.out (by simp) hm (by decide) (by decide) (fun i m hi => by simp at hi)).mono ?_
    rintro e w3 ⟨x, ns3, rfl, N3, hx3, v3⟩
    have HN3 := Lib.hid N3
    have HX3 := Lib.hid hx3
    have HV3 := Lib.hid v3
    have L3 : Hid (ns3.length ≤ 1) := N3.len
    clear N3 hx3 v3
    go_wp2_with fail
    refine (l_vari _ _ _ _ _ a1 1 HN3.out.cur (by have := L3.out; omega) hm (by decide) (by decide) (fun i m hi ho hv => by
      rcases HV3.out i m hi ho with h | h
      · simp at h
      · subst h; simp at hv)).mono ?_
    rintro e w4 ⟨y, ns4, rfl, N4, hy4, v4⟩
    have HN4 := Lib.hid N4
    have HX4 := Lib.hid (N4.nd HX3.out)
    have HY4 := Lib.hid hy4
    have L4 : Hid (ns4.length ≤ 2) := by have := N4.len; have := L3.out; show ns4.length ≤ 2; omega
    clear N4 hy4 v4
    go_wp2_with fail
    refine (l_two _ _ _ _ _ a0 x y HN4.out.cur (by have := L4.out; omega) h4 h15 (isT_nd HX4.out) (isT_nd HY4.out) ((wdt_of HY4.out).trans (wdt_of HX4.out).symm)).mono ?_
    rintro e w5 ⟨t, ns5, rfl, N5, ht5⟩
    have HN5 := Lib.hid N5
    have HT5 := Lib.hid ht5
    have HX5 := Lib.hid (N5.nd HX4.out)
    have L5 : Hid (ns5.length ≤ 3) := by have := N5.len; have := L4.out; show ns5.length ≤ 3; omega
    clear N5 ht5
    go_wp2_with fail
    refine (l_two _ _ _ _ _ a0 x x HN5.out.cur (by have := L5.out; omega) h4 h15 (isT_nd HX5.out) (isT_nd HX5.out) rfl).mono ?_
    rintro e w6 ⟨u, ns6, rfl, N6, hu6⟩
    have HN6 := Lib.hid N6
    have hbx : Has w6 w.heap.size 55 #[.int .u16 a2_0, .int .u16 a2_1] := HX1.out.same (N6.cur.below0.block _ HX1.out.lt)
    have c0 : w6.cell? ⟨w.heap.size, 0, none⟩ = some (.int .u16 a2_0) := hbx.cell 0
    have c1 : w6.cell? ⟨w.heap.size, 1, none⟩ = some (.int .u16 a2_1) := hbx.cell 1
    have HENV := Lib.hid (env_own hbx [a2_0, a2_1] (fun i v hv => by
      match i, hv with
      | 0, hv => simpa using hv
      | 1, hv => simpa using hv) (by simp; omega) (by simp))
    have e1 : V ns6 [a2_0, a2_1] t = doM a0 a1 (low a1 a2_0) (low a1 a2_1) := by
      rw [N6.V _ HT5.out.t, made_two_V h4 h15 HT5.out, wdt_of HX4.out, V_var HN4.out.cur.wf _ HX4.out, V_var HN4.out.cur.wf _ HY4.out]
      show doM a0 a1 (low a1 (low a1 a2_0)) (low a1 (low a1 a2_1)) = _
      rw [low_low hm, low_low hm]
    have e2 : V ns6 [a2_0, a2_1] u = doM a0 a1 (low a1 a2_0) (low a1 a2_0) := by
      rw [made_two_V h4 h15 hu6, wdt_of HX5.out, V_var HN5.out.cur.wf _ HX5.out]
      show doM a0 a1 (low a1 (low a1 a2_0)) (low a1 (low a1 a2_0)) = _
      rw [low_low hm]
    have HE1 := fun W (C : Cur _ W _ _ _) (he : EnvAt W _ _) => Lib.hid (r_eval (W0 := w1) (ab := w1.heap.size) (ns := ns6) (Q := fun _ => False) C (some ⟨w.heap.size, 0, none⟩) 2 [a2_0, a2_1] t he)
    have HE2 := fun W (C : Cur _ W _ _ _) (he : EnvAt W _ _) => Lib.hid (r_eval (W0 := w1) (ab := w1.heap.size) (ns := ns6) (Q := fun _ => False) C (some ⟨w.heap.size, 0, none⟩) 2 [a2_0, a2_1] u he)
    rw [e1] at HE1
    rw [e2] at HE2
    have HD1 := fun W => Lib.hid (rdo_yes a0 a1 a2_0 a2_1 W hm (by omega) h15 n00 n01 n10 n11)
    have HD2 := fun W => Lib.hid (rdo_yes a0 a1 a2_0 a2_0 W hm (by omega) h15 n00 n01 n00 n01)
    have hbl : w.heap.size < w6.heap.size := hbx.lt
    clear N6 hu6 hbx e1 e2
    generalize doM a0 a1 (low a1 a2_0) (low a1 a2_1) = r1 at *
    generalize doM a0 a1 (low a1 a2_0) (low a1 a2_0) = r2 at *
    go_wp2_with fail
    refine (HD1 _).out.mono ?_
    rintro e w' ⟨rfl, rfl⟩
    go_wp2_with fail
    refine (HD2 _).out.mono ?_
    rintro e w' ⟨rfl, rfl⟩
    go_wp2_with fail
    refine (HE1 _ HN6.out.cur HENV.out).out.mono ?_
    rintro e w7 ⟨rfl, hb7⟩
    have C7 := Lib.hid (HN6.out.cur.below hb7)
    have HENV7 := Lib.hid (HENV.out.keep (fun a ha => hb7.block _ (HENV.out.lt a ha)) hb7.size)
    clear hb7
    go_wp2_with fail
    refine (HE2 _ C7.out HENV7.out).out.mono ?_
    rintro e w8 ⟨rfl, hb8⟩
    have C8 := Lib.hid (C7.out.below hb8)
    clear hb8
    go_wp2
    go_ret
    exact ⟨by simp, HB1.out.trans (C8.out.below0.mono HB1.out.size)⟩
  · by_cases hr1 : 4 ≤ a0 ∧ a0 ≤ 15
    · obtain ⟨h4, h15⟩ := hr1
      have hm : ¬ mayw a1 := fun h => hr ⟨h4, h15, h⟩
      clear hr
      go_enter Tryd.func6, Tryd.ntmps6
      go_wp2_with fail
      refine (awake_any _ HT1.out (by simp)).mono ?_
      rintro e w1 ⟨rfl, hb⟩
      have HB := Lib.hid (((Below.refl w.heap.size w).alloc (Nat.le_refl _) _).trans (hb.mono (by simp)))
      clear hb
      go_wp2_with (go_at_call 24; refine (rmay_no _ _ hm).mono ?_; rintro e w' ⟨rfl, rfl⟩)
      go_ret
      exact ⟨rfl, HB.out⟩
    · by_cases h4 : 4 ≤ a0
      · have h15 : 15 < a0 := by omega
        clear hr hr1
        go_enter Tryd.func6, Tryd.ntmps6
        go_wp2_with fail
        refine (awake_any _ HT1.out (by simp)).mono ?_
        rintro e w1 ⟨rfl, hb⟩
        have HB := Lib.hid (((Below.refl w.heap.size w).alloc (Nat.le_refl _) _).trans (hb.mono (by simp)))
        clear hb
        go_wp2
        go_ret
        exact ⟨rfl, HB.out⟩
      · clear hr hr1
        go_enter Tryd.func6, Tryd.ntmps6
        go_wp2_with fail
        refine (awake_any _ HT1.out (by simp)).mono ?_
        rintro e w1 ⟨rfl, hb⟩
        have HB := Lib.hid (((Below.refl w.heap.size w).alloc (Nat.le_refl _) _).trans (hb.mono (by simp)))
        clear hb
        go_wp2
        go_ret
        exact ⟨rfl, HB.out⟩

set_option maxRecDepth 100000 in
theorem lifted (os : Os) (started : os.Started) (H : Type) (enc : TypeId × Value → H) :
    ReturnsInHanded {} Tryd.checked os 6 .any (fun w args => (Rows.termOpsSpec.pre enc Tryd.prog Tryd.f6 [] false w args ∧ laidMetH Tryd.prog laidTab w) ∧ sizedMet enc Tryd.prog Tryd.f6 (OpenSpec.ofChange Rows.termOpsSpec) false w args)
      (Rows.termOpsSpec.post enc Tryd.prog Tryd.f6 false true false false) := by
  refine returnsInHanded_of_change_and (C := Tryd.checked) (X := fun w _ => laidMetH Tryd.prog laidTab w) (fun _ _ _ hh h => h.of_heap hh) ownDoor started (by kernel_rfl) Tryd.func6
    (ChangeSpec.witness_shaped (enc := enc) (C := Tryd.checked) (os := os) (X := fun w _ => laidMetH Tryd.prog laidTab w) false (World.doorLaid Tryd.prog 400 os) #[.int .i64 0, .int .i64 0, .agg #[.int .u16 0, .int .u16 0]] 8 rfl (World.shaped_of_RefB (by kernel_rfl) (by kernel_rfl)) (by kernel_rfl) (by kernel_rfl) (by kernel_rfl) (door_met os _)) ?_
  intro W base args ds gs before hval0 hW _ hsz hL _
  have hval : ∀ (j : Nat) t v, Tryd.f6.params[j]? = some t → args[j]? = some v → Value.okWide Tryd.prog W .any base t v := hval0
  have hW' := hW
  obtain ⟨p, q, hA0, hV, rfl, hfz, hnd⟩ := hW
  have hA : DataW.TrodAll enc Tryd.prog W 0 (fun _ => true) true Tryd.f6.params.toList args.toList ds p := hA0
  rw [Tryd.params6] at hA hval
  obtain ⟨v0, vs0, d0, ds0, p0, q0, hargs, rfl, rfl, h0, r0⟩ := trodAll_cons hA
  obtain ⟨v1, vs1, d1, ds1, p1, q1, rfl, rfl, rfl, h1, r1⟩ := trodAll_cons r0
  obtain ⟨v2, vs2, d2, ds2, p2, q2, rfl, rfl, rfl, h2, r2⟩ := trodAll_cons r1
  obtain ⟨rfl, rfl, rfl⟩ := trodAll_nil r2
  obtain rfl : args = #[v0, v1, v2] := by cases args; simp_all
  obtain ⟨rfl, rfl⟩ := trodVars_none hV
  obtain ⟨a0, rfl, rfl, rfl, w0⟩ := open_int Tryd.underlying3 (hval 0 3 v0 rfl rfl) h0
  obtain ⟨a1, rfl, rfl, rfl, w1⟩ := open_int Tryd.underlying3 (hval 1 3 v1 rfl rfl) h1
  obtain ⟨cs2, rfl, hsz2, _⟩ : ∃ cs, v2 = .agg cs ∧ cs.size = Tryd.prog.cellsOf 55 ∧ Row.okWide Tryd.prog W .any base 55 cs := by
    have := hval 2 55 v2 rfl rfl
    simpa [Value.okWide, Tryd.underlying55] using this
  rw [cellsA2] at hsz2
  obtain ⟨l2⟩ := cs2
  obtain ⟨c2_0, c2_1, rfl⟩ := list2 l2 hsz2
  obtain ⟨fuel2, hf2⟩ := h2
  obtain ⟨xs2, m2, _, hx2, _, hl2, hel2⟩ := DataW.trod_array Tryd.underlying55 hf2
  obtain ⟨y2_0, y2_1, rfl⟩ := list2' xs2 hl2
  obtain ⟨a2_0, e2_0, ey2_0, w2_0⟩ := DataW.trod_int Tryd.underlying31 (by simpa [cellsE2, Value.cells] using hel2 0 (by decide))
  obtain ⟨a2_1, e2_1, ey2_1, w2_1⟩ := DataW.trod_int Tryd.underlying31 (by simpa [cellsE2, Value.cells] using hel2 1 (by decide))
  simp at e2_0 e2_1
  subst e2_0 e2_1
  subst ey2_0 ey2_1
  simp only [List.map, List.flatMap_cons, List.flatMap_nil, List.append_nil, Prod.mk.injEq] at hx2
  obtain ⟨rfl, rfl⟩ := hx2
  obtain ⟨hT, hpos⟩ := of_laid hL
  clear hA0 hval0
  simp only [List.append_nil] at hW'
  refine (walk a0 a1 a2_0 a2_1 W w0 w1 w2_0 w2_1 hT hpos).mono fun e W' ⟨he, hg⟩ => ?_
  subst he
  exact ⟨_, rfl, post_kept (pa := []) (pv := []) hW' hg (fun _ _ _ => (trodAll_cons_mk (shut_bool Tryd.underlying4 _) trodAll_mk0)) (fun sp hsp => (trodAll_cons_mk (shut_int Tryd.underlying3 w0) (trodAll_cons_mk (shut_int Tryd.underlying3 w1) (trodAll_cons_mk (p := []) (⟨2, by simp [DataW.trod, Value.cells, Tryd.underlying55, Tryd.underlying31, cellsA2, cellsE2, w2_0, w2_1, show List.range 2 = [0, 1] from rfl]⟩) trodAll_mk0)))) (fun _ _ => rfl) rfl
    (ok_one (by kernel_rfl) rfl (okWide_bool_mk Tryd.underlying4 _))⟩

theorem over : Rows.TermOpsSaid :=
  OpenClaim.holds_of_wide 6 Tryd.f6 rfl rfl rfl rfl rfl rfl rfl ⟨rfl, rfl, rfl, rfl, rfl⟩ rfl rfl rfl rfl rfl (by kernel_rfl) Tryd.func6 (by kernel_rfl)
    (of_decide_eq_true (by kernel_rfl)) (by unfold Func.isWrapper; first | (rw [if_pos (by decide +kernel)]; kernel_rfl) | (rw [if_neg (by decide +kernel)]; exact ⟨rfl, rfl⟩))
    (fun os started H enc _ => lifted os started H enc)

theorem proved : Rows.TermOpsCardSaid :=
  Claim7.holds_tied_plain_at .later [] [.data] true _ false
    over (fun _ h => by cases h) (by kernel_rfl) (fun _ h => by cases h) termOps_row_tie rfl ⟨rfl, rfl⟩ (by kernel_rfl) rfl
    (fun f fn hf hfn => by
      obtain rfl : f = 6 := Option.some.inj ((show Tryd.prog.funcNamed "crossroads/crossroadslaw2.TermOps" = some 6 by kernel_rfl).symm.trans hf) |>.symm
      obtain rfl : fn = Tryd.f6 := (Option.some.inj (Tryd.func6.symm.trans hfn)).symm
      exact ⟨by kernel_rfl, fun j t ht => by
        rw [Tryd.params6] at ht
        have hm : t ∈ ([3, 3, 55] : List TypeId) := by simpa using Array.mem_of_getElem? ht
        have hall : (([3, 3, 55] : List TypeId).all fun u => !Tryd.prog.wantsStandIn u) = true := by kernel_rfl
        exact (show Tryd.prog.wantsStandIn t = false by simpa using List.all_eq_true.1 hall t hm)⟩)
    (by kernel_rfl)
#print axioms proved
end Go.Proofs.YtfmicchkiegbbaaDoor.termOps
