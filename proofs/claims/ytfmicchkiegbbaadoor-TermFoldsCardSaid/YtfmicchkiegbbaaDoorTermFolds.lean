/-
  The law TermFolds: each operator on two numbers, of any width, is a number, that of the operator, and the one term that this number has. No condition.
-/
import Derived.Test.YtfmicchkiegbbaaDoorTermX
import Derived.Test.YtfmicchkiegbbaaDoorCards
import Derived.SevenTiedAt
namespace Go.Proofs.YtfmicchkiegbbaaDoor.termFolds
open Go.ChangeShapes Go.WideShapes Go.ChangeAt Go.RowKit
set_option linter.unusedVariables false

theorem cellsA2 : Tryd.prog.cellsOf 55 = 2 := by kernel_rfl
theorem cellsE2 : Tryd.prog.cellsOf 31 = 1 := by kernel_rfl
theorem list2 {α : Type} (l : List α) (h : (⟨l⟩ : Array α).size = 2) : ∃ v0 v1, l = [v0, v1] := by
  match l, h with | [v0, v1], _ => exact ⟨v0, v1, rfl⟩
theorem list2' {α : Type} (l : List α) (h : l.length = 2) : ∃ v0 v1, l = [v0, v1] := by
  match l, h with | [v0, v1], _ => exact ⟨v0, v1, rfl⟩
theorem const_node {ns : List Nd} (hwf : WF ns) {x : Int} (h : isC ns x) : ∃ v, nd ns x = some ⟨1, wdt ns x, v, 0, 0, 0⟩ ∧ ∀ env, V ns env x = v := by
  obtain ⟨m, hm, h1⟩ := h
  obtain ⟨_, ha, hb, hc⟩ := (NW.nd hwf hm).one h1
  have hw := wdt_of hm
  have hv := fun env => V_const hwf env hm h1
  obtain ⟨op, wd, val, a, b, c⟩ := m
  simp only at *
  subst h1 ha hb hc hw
  exact ⟨val, hm, hv⟩
theorem same_T {ns : List Nd} (h : ∀ (i j : Nat) (n : Nd), ns[i]? = some n → ns[j]? = some n → i = j) {x y : Int} {n : Nd} (hx : nd ns x = some n) (hy : nd ns y = some n) : x = y := by
  have a := nd_pos hx
  have b := nd_pos hy
  have := h _ _ _ a.2.2 b.2.2
  omega
theorem allC_one {ns : List Nd} {op wd p : Int} (hp : isC ns p) : AllC ns ⟨op, wd, 0, p, 0, 0⟩ 3 := by
  intro j hj ht
  have : j = 0 ∨ j = 1 ∨ j = 2 := by omega
  rcases this with rfl | rfl | rfl
  · exact hp
  · exact absurd ht (by simp [isT, pt])
  · exact absurd ht (by simp [isT, pt])

set_option maxHeartbeats 1600000 in
set_option maxRecDepth 100000 in
theorem walk (a0 : Int) (a1 : Int) (a2_0 a2_1 : Int) (w : World) (w0 : (Lit.int .i64 a0).wf = true) (w1 : (Lit.int .i64 a1).wf = true) (w2_0 : (Lit.int .u16 a2_0).wf = true) (w2_1 : (Lit.int .u16 a2_1).wf = true) (hT : Tab w) (hpos : 0 < w.heap.size) :
    Calls Tryd.prog 7 #[.int .i64 a0, .int .i64 a1, .agg #[.int .u16 a2_0, .int .u16 a2_1]] w fun e w' => e = .returned (.bool true) ∧ Below w.heap.size w w' := by
  obtain ⟨n00, n01⟩ := bounds_u16 w2_0
  obtain ⟨n10, n11⟩ := bounds_u16 w2_1
  have HBX := Lib.hid (Has.new w 55 #[.int .u16 a2_0, .int .u16 a2_1])
  have HT1 := Lib.hid (hT.below (((Below.refl w.heap.size w).alloc (Nat.le_refl _) (.cells #[.int .u16 a2_0, .int .u16 a2_1] 55))) hpos)
  clear w0 w1 w2_0 w2_1 hT
  by_cases hr : 4 ≤ a0 ∧ a0 ≤ 15 ∧ mayw a1
  · obtain ⟨h4, h15, hm⟩ := hr
    go_enter Tryd.func7, Tryd.ntmps7
    go_wp2_with fail
    refine (awake_any _ HT1.out (by simp)).mono ?_
    rintro e w1 ⟨rfl, hb⟩
    have HB1 := Lib.hid (((Below.refl w.heap.size w).alloc (Nat.le_refl _) _).trans (hb.mono (by simp)))
    have HX1 := Lib.hid (HBX.out.same (hb.block _ HBX.out.lt))
    clear hb
    go_wp2_with fail
    refine (rmay_yes _ _ hm).mono ?_
    rintro e w' ⟨rfl, rfl⟩
    have hbxn : Has w1 w.heap.size 55 #[.int .u16 a2_0, .int .u16 a2_1] := HX1.out
    go_wp2_with fail
    refine (new_any _).mono ?_
    rintro e w2 ⟨rfl, ha, hb⟩
    have C2 := Lib.hid (Cur.of_new ha hb)
    have hbx2 : Has w2 w.heap.size 55 #[.int .u16 a2_0, .int .u16 a2_1] := HX1.out.same (hb.block _ HX1.out.lt)
    have c20 : w2.cell? ⟨w.heap.size, 0, none⟩ = some (.int .u16 a2_0) := hbx2.cell 0
    clear ha hb hbx2 hbxn
    go_wp2_with fail
    refine (l_const _ _ _ _ _ a1 a2_0 C2.out (by simp) hm n00 n01).mono ?_
    rintro e w3 ⟨x, ns3, rfl, N3, hx3, _⟩
    have HN3 := Lib.hid N3
    have HX3 := Lib.hid hx3
    have L3 : Hid (ns3.length ≤ 1) := N3.len
    clear N3 hx3
    have hbx3 : Has w3 w.heap.size 55 #[.int .u16 a2_0, .int .u16 a2_1] := HX1.out.same (HN3.out.cur.below0.block _ HX1.out.lt)
    have c30 : w3.cell? ⟨w.heap.size, 0, none⟩ = some (.int .u16 a2_0) := hbx3.cell 0
    have c31 : w3.cell? ⟨w.heap.size, 1, none⟩ = some (.int .u16 a2_1) := hbx3.cell 1
    clear hbx3
    go_wp2_with fail
    refine (l_const _ _ _ _ _ a1 a2_1 HN3.out.cur (by have := L3.out; omega) hm n10 n11).mono ?_
    rintro e w4 ⟨y, ns4, rfl, N4, hy4, _⟩
    have HN4 := Lib.hid N4
    have HX4 := Lib.hid (N4.nd HX3.out)
    have HY4 := Lib.hid hy4
    have L4 : Hid (ns4.length ≤ 2) := by have := N4.len; have := L3.out; show ns4.length ≤ 2; omega
    clear N4 hy4
    go_wp2_with fail
    refine (l_two _ _ _ _ _ a0 x y HN4.out.cur (by have := L4.out; omega) h4 h15 (isT_nd HX4.out) (isT_nd HY4.out) ((wdt_of HY4.out).trans (wdt_of HX4.out).symm)).mono ?_
    rintro e w5 ⟨t, ns5, rfl, N5, ht5⟩
    have HN5 := Lib.hid N5
    have HX5 := Lib.hid (N5.nd HX4.out)
    have L5 : Hid (ns5.length ≤ 3) := by have := N5.len; have := L4.out; show ns5.length ≤ 3; omega
    have hmo := doM_out hm a0 a2_0 a2_1 h15
    have HT5 : Hid (nd ns5 t = some ⟨1, outV a0 a1, doM a0 a1 (low a1 a2_0) (low a1 a2_1), 0, 0, 0⟩) := by
      obtain ⟨v, hv, hv2⟩ := const_node N5.cur.wf (ht5.c (allC_two ⟨_, HX4.out, rfl⟩ ⟨_, HY4.out, rfl⟩))
      rw [ht5.w] at hv
      have e1 := hv2 []
      rw [made_two_V h4 h15 ht5, wdt_of HX4.out, V_const HN4.out.cur.wf [] HX4.out rfl, V_const HN4.out.cur.wf [] HY4.out rfl, low_low hm, low_low hm] at e1
      subst e1
      rw [wdt_of HX4.out] at hv
      exact hv
    clear N5 ht5
    go_wp2_with fail
    refine (l_not _ _ _ _ _ x HN5.out.cur (by have := L5.out; omega) (isT_nd HX5.out)).mono ?_
    rintro e w6 ⟨u, ns6, rfl, N6, hu6⟩
    have HN6 := Lib.hid N6
    have HT6 := Lib.hid (N6.nd HT5.out)
    have L6 : Hid (ns6.length ≤ 4) := by have := N6.len; have := L5.out; show ns6.length ≤ 4; omega
    have HU6 : Hid (∃ wd, nd ns6 u = some ⟨1, wd, doM 3 a1 (low a1 a2_0) (low a1 0), 0, 0, 0⟩) := by
      obtain ⟨v, hv, hv2⟩ := const_node N6.cur.wf (hu6.c (allC_one ⟨_, HX5.out, rfl⟩))
      have e1 := hv2 []
      rw [hu6.v] at e1
      unfold nv at e1
      simp only at e1
      rw [if_neg (by decide), if_neg (by decide), if_neg (by decide), if_neg (by decide), wdt_of HX5.out, V_const HN5.out.cur.wf [] HX5.out rfl, V_none (x := 0) [] (by unfold isT; omega), low_low hm] at e1
      subst e1
      exact ⟨_, hv⟩
    obtain ⟨wu, hu⟩ := HU6.out
    have HKT := Lib.hid (r_known N6.cur t _ HT6.out rfl)
    have HKU := fun W (C : Cur w1 W w1.heap.size ns6 (fun _ => False)) => Lib.hid (r_known C u _ hu rfl)
    have HD1 := fun W => Lib.hid (rdo_yes a0 a1 a2_0 a2_1 W hm (by omega) h15 n00 n01 n10 n11)
    have HD2 := fun W => Lib.hid (rdo_yes 3 a1 a2_0 0 W hm (by decide) (by decide) n00 n01 (by decide) (by decide))
    have HMO := Lib.hid hmo
    have hpwo := pw_bd (outV_may (op := a0) hm)
    have g0 := hmo.1
    have g1 : doM a0 a1 (low a1 a2_0) (low a1 a2_1) ≤ 65535 := by have := hmo.2; omega
    clear N6 hu6 hu hmo hpwo
    generalize hr1 : doM a0 a1 (low a1 a2_0) (low a1 a2_1) = r1 at *
    have HR1 := Lib.hid hr1
    generalize doM 3 a1 (low a1 a2_0) (low a1 0) = r2 at *
    clear hr1
    go_wp2_with fail
    refine HKT.out.mono ?_
    rintro e w7 ⟨rfl, hb7⟩
    have C7 := Lib.hid (HN6.out.cur.below hb7)
    clear hb7
    go_wp2_with fail
    refine (HKU _ C7.out).out.mono ?_
    rintro e w8 ⟨rfl, hb8⟩
    have C8 := Lib.hid (C7.out.below hb8)
    have hbx8 : Has w8 w.heap.size 55 #[.int .u16 a2_0, .int .u16 a2_1] := HX1.out.same (C8.out.below0.block _ HX1.out.lt)
    have c80 : w8.cell? ⟨w.heap.size, 0, none⟩ = some (.int .u16 a2_0) := hbx8.cell 0
    have c81 : w8.cell? ⟨w.heap.size, 1, none⟩ = some (.int .u16 a2_1) := hbx8.cell 1
    clear hb8 hbx8
    go_wp2_with fail
    refine (HD1 _).out.mono ?_
    rintro e w' ⟨rfl, rfl⟩
    go_wp2_with fail
    refine (HD2 _).out.mono ?_
    rintro e w' ⟨rfl, rfl⟩
    go_wp2_with fail
    refine (l_const _ _ _ _ _ a1 r1 C8.out (by have := L6.out; omega) hm g0 g1).mono ?_
    rintro e w9 ⟨c, ns9, rfl, N9, hc9, _⟩
    have HN9 := Lib.hid N9
    have HC9 := Lib.hid hc9
    have HT9 := Lib.hid (N9.nd HT6.out)
    have L9 : Hid (ns9.length ≤ 5) := by have := N9.len; have := L6.out; show ns9.length ≤ 5; omega
    clear N9 hc9
    by_cases h14 : a0 = 14 ∨ a0 = 15
    · have ho : outV a0 a1 = 1 := by rcases h14 with rfl | rfl <;> rfl
      have HO := Lib.hid ho
      have hb := HMO.out.2
      rw [ho] at hb
      have HL1 : Hid (low 1 r1 = r1) := Int.emod_eq_of_lt g0 hb
      clear ho hb
      by_cases e14 : a0 = 14
      · have t14 : (a0 == 14) = true := by simpa using e14
        clear h14 e14
        go_wp2_with fail
        refine (l_const _ _ _ _ _ 1 r1 HN9.out.cur (by have := L9.out; omega) m1 g0 g1).mono ?_
        rintro e w10 ⟨c', ns10, rfl, N10, hc10, _⟩
        have HLAST := Lib.hid N10
        obtain rfl : c' = t := same_T N10.cur.once hc10 (by have h := N10.nd HT9.out; rw [HO.out] at h; rw [HL1.out]; exact h)
        clear N10 hc10
        go_wp2
        go_ret
        exact ⟨by simp, HB1.out.trans (HLAST.out.cur.below0.mono HB1.out.size)⟩
      · have t14 : (a0 == 14) = false := by simpa using e14
        have t15 : (a0 == 15) = true := by simp; omega
        clear h14 e14
        go_wp2_with fail
        refine (l_const _ _ _ _ _ 1 r1 HN9.out.cur (by have := L9.out; omega) m1 g0 g1).mono ?_
        rintro e w10 ⟨c', ns10, rfl, N10, hc10, _⟩
        have HLAST := Lib.hid N10
        obtain rfl : c' = t := same_T N10.cur.once hc10 (by have h := N10.nd HT9.out; rw [HO.out] at h; rw [HL1.out]; exact h)
        clear N10 hc10
        go_wp2
        go_ret
        exact ⟨by simp, HB1.out.trans (HLAST.out.cur.below0.mono HB1.out.size)⟩
    · have ho : outV a0 a1 = a1 := by unfold outV; rw [if_neg (by omega), if_neg (by omega)]
      have hb := HMO.out.2
      rw [ho] at hb
      have hl1 : low a1 r1 = r1 := Int.emod_eq_of_lt g0 hb
      have HLAST := Lib.hid HN9.out
      obtain rfl : c = t := same_T HN9.out.cur.once HC9.out (by rw [hl1, ← ho]; exact HT9.out)
      have t14 : (a0 == 14) = false := by simp; omega
      have t15 : (a0 == 15) = false := by simp; omega
      clear h14 ho hb hl1
      go_wp2
      go_ret
      exact ⟨by simp, HB1.out.trans (HLAST.out.cur.below0.mono HB1.out.size)⟩
  · by_cases hr1 : 4 ≤ a0 ∧ a0 ≤ 15
    · obtain ⟨h4, h15⟩ := hr1
      have hm : ¬ mayw a1 := fun h => hr ⟨h4, h15, h⟩
      clear hr
      go_enter Tryd.func7, Tryd.ntmps7
      go_wp2_with fail
      refine (awake_any _ HT1.out (by simp)).mono ?_
      rintro e w1 ⟨rfl, hb⟩
      have HB := Lib.hid (((Below.refl w.heap.size w).alloc (Nat.le_refl _) _).trans (hb.mono (by simp)))
      clear hb
      go_wp2_with (go_at_call 24; refine (rmay_no _ _ hm).mono ?_; rintro e w' ⟨rfl, rfl⟩)
      go_ret
      exact ⟨rfl, HB.out⟩
    · by_cases h4 : 4 ≤ a0
      · have h15 : 15 < a0 := by omega
        clear hr hr1
        go_enter Tryd.func7, Tryd.ntmps7
        go_wp2_with fail
        refine (awake_any _ HT1.out (by simp)).mono ?_
        rintro e w1 ⟨rfl, hb⟩
        have HB := Lib.hid (((Below.refl w.heap.size w).alloc (Nat.le_refl _) _).trans (hb.mono (by simp)))
        clear hb
        go_wp2
        go_ret
        exact ⟨rfl, HB.out⟩
      · clear hr hr1
        go_enter Tryd.func7, Tryd.ntmps7
        go_wp2_with fail
        refine (awake_any _ HT1.out (by simp)).mono ?_
        rintro e w1 ⟨rfl, hb⟩
        have HB := Lib.hid (((Below.refl w.heap.size w).alloc (Nat.le_refl _) _).trans (hb.mono (by simp)))
        clear hb
        go_wp2
        go_ret
        exact ⟨rfl, HB.out⟩

set_option maxRecDepth 100000 in
theorem lifted (os : Os) (started : os.Started) (H : Type) (enc : TypeId × Value → H) :
    ReturnsInHanded {} Tryd.checked os 7 .any (fun w args => (Rows.termFoldsSpec.pre enc Tryd.prog Tryd.f7 [] false w args ∧ laidMetH Tryd.prog laidTab w) ∧ sizedMet enc Tryd.prog Tryd.f7 (OpenSpec.ofChange Rows.termFoldsSpec) false w args)
      (Rows.termFoldsSpec.post enc Tryd.prog Tryd.f7 false true false false) := by
  refine returnsInHanded_of_change_and (C := Tryd.checked) (X := fun w _ => laidMetH Tryd.prog laidTab w) (fun _ _ _ hh h => h.of_heap hh) ownDoor started (by kernel_rfl) Tryd.func7
    (ChangeSpec.witness_shaped (enc := enc) (C := Tryd.checked) (os := os) (X := fun w _ => laidMetH Tryd.prog laidTab w) false (World.doorLaid Tryd.prog 400 os) #[.int .i64 0, .int .i64 0, .agg #[.int .u16 0, .int .u16 0]] 8 rfl (World.shaped_of_RefB (by kernel_rfl) (by kernel_rfl)) (by kernel_rfl) (by kernel_rfl) (by kernel_rfl) (door_met os _)) ?_
  intro W base args ds gs before hval0 hW _ hsz hL _
  have hval : ∀ (j : Nat) t v, Tryd.f7.params[j]? = some t → args[j]? = some v → Value.okWide Tryd.prog W .any base t v := hval0
  have hW' := hW
  obtain ⟨p, q, hA0, hV, rfl, hfz, hnd⟩ := hW
  have hA : DataW.TrodAll enc Tryd.prog W 0 (fun _ => true) true Tryd.f7.params.toList args.toList ds p := hA0
  rw [Tryd.params7] at hA hval
  obtain ⟨v0, vs0, d0, ds0, p0, q0, hargs, rfl, rfl, h0, r0⟩ := trodAll_cons hA
  obtain ⟨v1, vs1, d1, ds1, p1, q1, rfl, rfl, rfl, h1, r1⟩ := trodAll_cons r0
  obtain ⟨v2, vs2, d2, ds2, p2, q2, rfl, rfl, rfl, h2, r2⟩ := trodAll_cons r1
  obtain ⟨rfl, rfl, rfl⟩ := trodAll_nil r2
  obtain rfl : args = #[v0, v1, v2] := by cases args; simp_all
  obtain ⟨rfl, rfl⟩ := trodVars_none hV
  obtain ⟨a0, rfl, rfl, rfl, w0⟩ := open_int Tryd.underlying3 (hval 0 3 v0 rfl rfl) h0
  obtain ⟨a1, rfl, rfl, rfl, w1⟩ := open_int Tryd.underlying3 (hval 1 3 v1 rfl rfl) h1
  obtain ⟨cs2, rfl, hsz2, _⟩ : ∃ cs, v2 = .agg cs ∧ cs.size = Tryd.prog.cellsOf 55 ∧ Row.okWide Tryd.prog W .any base 55 cs := by
    have := hval 2 55 v2 rfl rfl
    simpa [Value.okWide, Tryd.underlying55] using this
  rw [cellsA2] at hsz2
  obtain ⟨l2⟩ := cs2
  obtain ⟨c2_0, c2_1, rfl⟩ := list2 l2 hsz2
  obtain ⟨fuel2, hf2⟩ := h2
  obtain ⟨xs2, m2, _, hx2, _, hl2, hel2⟩ := DataW.trod_array Tryd.underlying55 hf2
  obtain ⟨y2_0, y2_1, rfl⟩ := list2' xs2 hl2
  obtain ⟨a2_0, e2_0, ey2_0, w2_0⟩ := DataW.trod_int Tryd.underlying31 (by simpa [cellsE2, Value.cells] using hel2 0 (by decide))
  obtain ⟨a2_1, e2_1, ey2_1, w2_1⟩ := DataW.trod_int Tryd.underlying31 (by simpa [cellsE2, Value.cells] using hel2 1 (by decide))
  simp at e2_0 e2_1
  subst e2_0 e2_1
  subst ey2_0 ey2_1
  simp only [List.map, List.flatMap_cons, List.flatMap_nil, List.append_nil, Prod.mk.injEq] at hx2
  obtain ⟨rfl, rfl⟩ := hx2
  obtain ⟨hT, hpos⟩ := of_laid hL
  clear hA0 hval0
  simp only [List.append_nil] at hW'
  refine (walk a0 a1 a2_0 a2_1 W w0 w1 w2_0 w2_1 hT hpos).mono fun e W' ⟨he, hg⟩ => ?_
  subst he
  exact ⟨_, rfl, post_kept (pa := []) (pv := []) hW' hg (fun _ _ _ => (trodAll_cons_mk (shut_bool Tryd.underlying4 _) trodAll_mk0)) (fun sp hsp => (trodAll_cons_mk (shut_int Tryd.underlying3 w0) (trodAll_cons_mk (shut_int Tryd.underlying3 w1) (trodAll_cons_mk (p := []) (⟨2, by simp [DataW.trod, Value.cells, Tryd.underlying55, Tryd.underlying31, cellsA2, cellsE2, w2_0, w2_1, show List.range 2 = [0, 1] from rfl]⟩) trodAll_mk0)))) (fun _ _ => rfl) rfl
    (ok_one (by kernel_rfl) rfl (okWide_bool_mk Tryd.underlying4 _))⟩

theorem over : Rows.TermFoldsSaid :=
  OpenClaim.holds_of_wide 7 Tryd.f7 rfl rfl rfl rfl rfl rfl rfl ⟨rfl, rfl, rfl, rfl, rfl⟩ rfl rfl rfl rfl rfl (by kernel_rfl) Tryd.func7 (by kernel_rfl)
    (of_decide_eq_true (by kernel_rfl)) (by unfold Func.isWrapper; first | (rw [if_pos (by decide +kernel)]; kernel_rfl) | (rw [if_neg (by decide +kernel)]; exact ⟨rfl, rfl⟩))
    (fun os started H enc _ => lifted os started H enc)

theorem proved : Rows.TermFoldsCardSaid :=
  Claim7.holds_tied_plain_at .later [] [.data] true _ false
    over (fun _ h => by cases h) (by kernel_rfl) (fun _ h => by cases h) termFolds_row_tie rfl ⟨rfl, rfl⟩ (by kernel_rfl) rfl
    (fun f fn hf hfn => by
      obtain rfl : f = 7 := Option.some.inj ((show Tryd.prog.funcNamed "crossroads/crossroadslaw2.TermFolds" = some 7 by kernel_rfl).symm.trans hf) |>.symm
      obtain rfl : fn = Tryd.f7 := (Option.some.inj (Tryd.func7.symm.trans hfn)).symm
      exact ⟨by kernel_rfl, fun j t ht => by
        rw [Tryd.params7] at ht
        have hm : t ∈ ([3, 3, 55] : List TypeId) := by simpa using Array.mem_of_getElem? ht
        have hall : (([3, 3, 55] : List TypeId).all fun u => !Tryd.prog.wantsStandIn u) = true := by kernel_rfl
        exact (show Tryd.prog.wantsStandIn t = false by simpa using List.all_eq_true.1 hall t hm)⟩)
    (by kernel_rfl)
#print axioms proved
end Go.Proofs.YtfmicchkiegbbaaDoor.termFolds
