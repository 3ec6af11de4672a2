/-
  The law FixMany: the And of all of many is 1 just if each is; the Or of none of them is 0. No condition.
-/
import Derived.Test.YtchbdnifcckloaaDoorTermY
import Derived.Test.YtchbdnifcckloaaDoorFixQ
import Derived.Test.YtchbdnifcckloaaDoorCards
import Derived.SevenTiedAt
namespace Go.Proofs.YtchbdnifcckloaaDoor.fixMany
open Go.ChangeShapes Go.WideShapes Go.ChangeAt Go.RowKit
set_option linter.unusedVariables false

theorem bounds8 {x : Int} (h : (Lit.int .u8 x).wf = true) : 0 ≤ x ∧ x ≤ 255 := by
  have e : IntKind.u8.min = 0 ∧ IntKind.u8.max = 255 := ⟨rfl, rfl⟩
  simp only [Lit.wf, e.1, e.2] at h; simp at h; omega

set_option maxHeartbeats 3200000 in
set_option maxRecDepth 100000 in
theorem walk (a0 : Int) (v1 : Value) (w : World) (w0 : (Lit.int .u8 a0).wf = true) (w1 : EnvIn w v1) (hT : Tab w) (hpos : 0 < w.heap.size) :
    Calls Tryd.prog 9 #[.int .u8 a0, v1] w fun e w' => e = .returned (.bool true) ∧ Below w.heap.size w w' := by
  obtain ⟨EA, env, ecap, rfl, he1, he2, hE⟩ := w1
  obtain ⟨n0, n1⟩ := bounds8 w0
  have HE0 := Lib.hid hE
  have HT := Lib.hid hT
  clear hE w0
  by_cases hb2 : 100 < env.length
  · go_enter Tryd.func9, Tryd.ntmps9
    go_wp2_with fail
    refine (awake3_any _ hT hpos).mono ?_
    rintro e w1 ⟨rfl, hb⟩
    have HB1 := Lib.hid hb
    clear hb hT
    go_wp2_with fail
    refine (new_any _).mono ?_
    rintro e w2 ⟨rfl, ha, hb⟩
    have HB2 := Lib.hid (HB1.out.trans (hb.mono HB1.out.size))
    clear ha hb
    go_wp2_with fail
    go_ret
    exact ⟨rfl, HB2.out⟩
  have hb2' : env.length ≤ 100 := by omega
  clear hb2
  obtain ⟨k, hk⟩ : ∃ k : Nat, a0.tmod 60 = (k : Int) := Int.eq_ofNat_of_zero_le (by rw [Int.tmod_eq_emod_of_nonneg n0]; omega)
  have hk60 : k < 60 := by rw [Int.tmod_eq_emod_of_nonneg n0] at hk; omega
  go_enter Tryd.func9, Tryd.ntmps9
  go_wp2_with fail
  refine (awake3_any _ hT hpos).mono ?_
  rintro e w1 ⟨rfl, hb⟩
  have HB1 := Lib.hid hb
  clear hb hT
  go_wp2_with fail
  refine (new_any _).mono ?_
  rintro e w2 ⟨rfl, ha, hb⟩
  have HC := Lib.hid (Cur.of_new ha hb)
  clear ha hb
  obtain ⟨i0, hi0, hz0, hz1, hz2⟩ := info_parts infoT
  have HI := Lib.hid (And.intro hi0 (And.intro hz0 (And.intro hz1 hz2)))
  have HB2 : Hid (Below w.heap.size w w2) := HB1.out.trans (HC.out.below0.mono HB1.out.size)
  have HS12 : Hid (w.heap.size ≤ w1.heap.size) := HB1.out.size
  clear hi0 hz0 hz1 hz2
  go_wp2_with fail
  go_loopw [7, 8, 9, 10] (fun l a b i wr => ∃ (j : Nat) (ns : List Nd) (zs : List Int), j ≤ k ∧ i = .int .i64 j ∧ a = .int .u16 (av env j) ∧ b = .int .u16 (ov env j) ∧ LM w1 wr w1.heap.size j l ns zs) (fun _ _ _ i _ => k - (intOf i).toNat)
  case atStart => exact ⟨0, [], [], Nat.zero_le _, rfl, rfl, rfl, LM.start HC.out⟩
  case round =>
    obtain ⟨j, ns, zs, hj, rfl, rfl, rfl, hrel⟩ := hrel
    obtain ⟨LA, lcap, rfl⟩ := row_form hrel.row
    have R := Lib.hid hrel
    clear hrel
    by_cases hjk : j < k
    · have HVA := Lib.hid (l_vari w1 wr w1.heap.size ns _ 1 j R.out.cur (by have := R.out.len; omega) m1 (by omega) (by omega) (fun i m hi ho hv => R.out.vs.w1 i m hi ho))
      have hA := foldB_succ (bits .and .u16) 1 env j
      have hO := foldB_succ (bits .or .u16) 0 env j
      have HAO : Hid (av env (j + 1) = bits .and .u16 (av env j) (bt env j) ∧ ov env (j + 1) = bits .or .u16 (ov env j) (bt env j)) := ⟨hA, hO⟩
      clear hA hO
      go_wp2_with fail
      refine HVA.out.mono ?_
      rintro e w4 ⟨x, ns', rfl, N, hx, nvv⟩
      have HN := Lib.hid N
      have HX := Lib.hid hx
      have HNV := Lib.hid nvv
      have HR4 := Lib.hid (row_same R.out.row (fun b hb => N.q b hb))
      have HS4 : Hid (w1.heap.size ≤ w4.heap.size) := N.cur.below0.size
      clear N hx nvv HVA
      have hw4 : Hid (Below w.heap.size w w4) := HB1.out.trans (HN.out.cur.below0.mono HB1.out.size)
      generalize av env j = aj at *
      generalize ov env j = oj at *
      by_cases hje : j < env.length
      · obtain ⟨ad, rfl, had, hce, e0, e1⟩ := HE0.out.at hje
        have hb1 : bits .and .u16 (env.getD j 0) 1 = bt env j := u16_mask m1 _ e0 e1
        have HCW := Lib.hid ((hw4.out.cell (p := ad.add j) (by rw [add_block]; exact had)).trans hce)
        have HAD : Hid (ad.block < w.heap.size) := had
        have HOB : Hid (∀ b, Value.ownBlock (.slice LA j lcap) = some b → w1.heap.size ≤ b) := fun b hb => by
          rcases R.out.row.2 with ⟨e2, _⟩ | ⟨g', c', cur, e2, hge, _⟩
          · rw [e2] at hb; cases hb
          · rw [e2] at hb
            have : g' = b := by simpa [Value.ownBlock] using hb
            omega
        clear had
        generalize bt env j = bj at *
        generalize env.getD j 0 = ev at *
        go_wp2_with (at_builtin; refine wpList_append_lies _ rfl _ _ _ rfl w1.heap.size 33 i0 _ 1 8 Tryd.underlying54 HI.out.1 HI.out.2.1 HI.out.2.2.1 HI.out.2.2.2 rfl (by omega) (.slice LA j lcap) j (tcells zs) rfl (HR4.out.alloc _) ⟨w4.heap.size, 0, none⟩ 1 1 [.int .i64 x] rfl rfl (World.news_of_block (cs := #[.int .i64 x]) (t := 33) (fr := (0, 0)) (heap_alloc_new w4 _)) (by simp [Value.oneCell']) (by omega) (by unfold maxLen; omega) (by omega) (by have := HS4.out; simp; omega) (w4.heap.size + 1) (by simp) ?_; intro g cap' wp hown2 hg2 hat hlt2; have HO2 := Lib.hid hown2; have HG2 := Lib.hid hg2; have HAT := Lib.hid hat; have HLT := Lib.hid hlt2; have hce : wp.cell? (ad.add j) = some (.int .u16 ev) := (World.cell?_of_block (by rw [add_block]; exact (hg2.block ad.block (by have := hw4.out.size; have := HAD.out; simp; omega) (fun e => by have := HOB.out _ e.symm; have := HAD.out; have := HS12.out; omega)).trans (alloc_other (by have := hw4.out.size; have := HAD.out; omega)))).trans HCW.out; clear hown2 hg2 hat hlt2)
        go_roundw
        case rel => exact ⟨j + 1, ns', zs ++ [x], by omega, by go_num, by rw [HAO.out.1], by rw [HAO.out.2], R.out.next HN.out HX.out HNV.out HO2.out HG2.out HAT.out HLT.out⟩
        case measure => simp [intOf]; omega
      · have hb1 : bt env j = 0 := by unfold bt; rw [List.getD_eq_getElem?_getD, List.getElem?_eq_none (by omega)]; rfl
        have hje' : env.length ≤ j := by omega
        rw [hb1] at HAO
        clear hje
        go_wp2_with (at_builtin; refine wpList_append_lies _ rfl _ _ _ rfl w1.heap.size 33 i0 _ 1 8 Tryd.underlying54 HI.out.1 HI.out.2.1 HI.out.2.2.1 HI.out.2.2.2 rfl (by omega) (.slice LA j lcap) j (tcells zs) rfl (HR4.out.alloc _) ⟨w4.heap.size, 0, none⟩ 1 1 [.int .i64 x] rfl rfl (World.news_of_block (cs := #[.int .i64 x]) (t := 33) (fr := (0, 0)) (heap_alloc_new w4 _)) (by simp [Value.oneCell']) (by omega) (by unfold maxLen; omega) (by omega) (by have := HS4.out; simp; omega) (w4.heap.size + 1) (by simp) ?_; intro g cap' wp hown2 hg2 hat hlt2; have HO2 := Lib.hid hown2; have HG2 := Lib.hid hg2; have HAT := Lib.hid hat; have HLT := Lib.hid hlt2; clear hown2 hg2 hat hlt2)
        go_roundw
        case rel => exact ⟨j + 1, ns', zs ++ [x], by omega, by go_num, by rw [HAO.out.1], by rw [HAO.out.2], R.out.next HN.out HX.out HNV.out HO2.out HG2.out HAT.out HLT.out⟩
        case measure => simp [intOf]; omega
    · obtain rfl : j = k := by omega
      have HBR : Hid (Below w.heap.size w wr) := HB1.out.trans (R.out.cur.below0.mono HB1.out.size)
      have HE3 := Lib.hid (HE0.out.from_ HBR.out)
      have hlen := R.out.len
      have hzl := R.out.vs.len
      cases zs with
      | nil =>
        simp at hzl
        subst hzl
        have HX1 : av env 0 = 1 := rfl
        have HX2 : ov env 0 = 0 := rfl
        rw [HX1, HX2]
        have HRN := Lib.hid R.out
        have HWF : Hid (WF ns) := R.out.cur.wf
        clear HX1 HX2
        go_wp2_with fail
        refine (all_nil w1 wr w1.heap.size ns _ lcap LA HRN.out.cur (by omega)).mono ?_
        rintro e w5 ⟨x, ns5, rfl, N5, hx⟩
        have C5 := Lib.hid N5.cur
        have HX := Lib.hid hx
        have L5 : Hid (ns5.length ≤ 1) := by have := N5.len; show ns5.length ≤ 1; omega
        clear N5 hx
        go_wp2_with fail
        refine (any_nil w1 w5 w1.heap.size ns5 _ lcap LA C5.out (by have := L5.out; omega)).mono ?_
        rintro e w6 ⟨y, ns6, rfl, N6, hy⟩
        have C6 := Lib.hid N6.cur
        have HX := Lib.hid (N6.nd HX.out)
        have HY := Lib.hid hy
        clear N6 hy
        have HE6 := Lib.hid (HE0.out.from_ (HB1.out.trans (C6.out.below0.mono HB1.out.size)))
        have HEX := Lib.hid (r_eval C6.out EA ecap env x HE6.out)
        rw [V_const C6.out.wf env HX.out rfl] at HEX
        go_wp2_with fail
        refine HEX.out.mono ?_
        rintro e w7 ⟨rfl, hb⟩
        have C7 := Lib.hid (C6.out.below hb)
        have HE7 := Lib.hid (HE6.out.from_ hb)
        clear hb HEX
        have HEY := Lib.hid (r_eval C7.out EA ecap env y HE7.out)
        rw [V_const C7.out.wf env HY.out rfl] at HEY
        go_wp2_with fail
        refine HEY.out.mono ?_
        rintro e w8 ⟨rfl, hb⟩
        have C8 := Lib.hid (C7.out.below hb)
        clear hb HEY
        obtain ⟨foot, a, b, c, d⟩ := C8.out
        have HA8 := Lib.hid a
        have HB8 := Lib.hid b
        clear a b c d
        go_wp2_with fail
        refine (size_yes w8 _ ns6 foot x HA8.out (isT_nd HX.out)).mono ?_
        rintro e w9 ⟨ls, rfl, hw, hb⟩
        have hmany := wl_pos hw
        have hm2 : (1 : Int) ≤ (ls.length : Int) := by omega
        have HB9 := Lib.hid (HB8.out.trans (hb.mono HB8.out.size))
        clear hw hb
        go_wp2_with fail
        go_ret
        exact ⟨by first | rfl | (simp; omega), HB1.out.trans (HB9.out.mono HB1.out.size)⟩
      | cons z0 rest =>
        simp only [List.length_cons] at hzl
        have HVA : Hid (VA ns (z0 :: rest)) := R.out.vs.at_
        obtain ⟨g, gc, hA, hgs, hn1, hn2, _⟩ := rowi_at R.out.row (i := 0) (u := .int .i64 z0) (by simp [tcells])
        injection hA with hA1 hA2 hA3
        subst hA1; subst hA3; subst hzl
        unfold maxLen at hn2
        have HWFZ : Hid (∀ z ∈ z0 :: rest, (Lit.int .i64 z).wf = true) := fun z hz => by
          have := (HVA.out.mem z hz).1
          have h1 := this.1; have h2 := this.2
          exact WalkArith.wf_i64 (by omega)
        have HRW := Lib.hid R.out.row
        have HAL := Lib.hid (all_many w1 wr w1.heap.size ns _ z0 rest _ lcap R.out.cur (nums_t HRW.out HWFZ.out) HVA.out.mem HVA.out.nodup (by omega) (by omega) hn1 (by omega))
        have HJV := Lib.hid (And.intro (jv_and (fun j z hz => HVA.out.v R.out.cur.wf env j z hz)) (jv_or (fun j z hz => HVA.out.v R.out.cur.wf env j z hz)))
        clear hA2
        go_wp2_with fail
        refine HAL.out.mono ?_
        rintro e w5 ⟨x, ns5, rfl, N5, p5⟩
        have HN5 := Lib.hid N5
        have HP5 := Lib.hid p5
        have HVA5 : Hid (VA ns5 (z0 :: rest)) := by
          obtain ⟨l, rfl⟩ := N5.ext
          exact HVA.out.more
        have L5 : Hid (ns5.length ≤ 130) := by have := N5.len; show ns5.length ≤ 130; omega
        have HRW5 := Lib.hid (row_same HRW.out (fun b hb => N5.q b hb))
        have HAN := Lib.hid (any_many w1 w5 w1.heap.size ns5 _ z0 rest _ lcap N5.cur (nums_t HRW5.out HWFZ.out) HVA5.out.mem HVA5.out.nodup (by omega) (by have := L5.out; omega) hn1 (by omega))
        have HJ5 := Lib.hid (jv_or (fun j z hz => HVA5.out.v N5.cur.wf env j z hz))
        clear N5 p5 HAL
        go_wp2_with fail
        refine HAN.out.mono ?_
        rintro e w6 ⟨y, ns6, rfl, N6, p6⟩
        have C6 := Lib.hid N6.cur
        have HYV : Hid (V ns6 env y = ov env (rest.length + 1)) := (p6.v env).trans HJ5.out
        have HXV : Hid (V ns6 env x = av env (rest.length + 1)) := by
          obtain ⟨l, rfl⟩ := N6.ext
          exact (V_append N6.cur.wf env HP5.out.t.2).trans ((HP5.out.v env).trans HJV.out.1)
        have HXT : Hid (isT ns6 x) := (ext_tr N6.cur.wf N6.ext HP5.out.t).1
        have HXR : Hid (∀ z ∈ z0 :: rest, Reach ns6 x z) := fun z hz => by
          obtain ⟨l, rfl⟩ := N6.ext
          exact (HP5.out.r z (by simpa using hz)).more
        have HND := Lib.hid HVA.out.nodup
        clear N6 p6 HAN
        have HE6 := Lib.hid (HE0.out.from_ (HB1.out.trans (C6.out.below0.mono HB1.out.size)))
        have HEX := Lib.hid (r_eval C6.out EA ecap env x HE6.out)
        rw [HXV.out] at HEX
        generalize av env (rest.length + 1) = aj at *
        generalize ov env (rest.length + 1) = oj at *
        go_wp2_with fail
        refine HEX.out.mono ?_
        rintro e w7 ⟨rfl, hb⟩
        have C7 := Lib.hid (C6.out.below hb)
        have HE7 := Lib.hid (HE6.out.from_ hb)
        clear hb HEX
        have HEY := Lib.hid (r_eval C7.out EA ecap env y HE7.out)
        rw [HYV.out] at HEY
        go_wp2_with fail
        refine HEY.out.mono ?_
        rintro e w8 ⟨rfl, hb⟩
        have C8 := Lib.hid (C7.out.below hb)
        clear hb HEY
        obtain ⟨foot, a, b, c, d⟩ := C8.out
        have HA8 := Lib.hid a
        have HB8 := Lib.hid b
        clear a b c d
        go_wp2_with fail
        refine (size_yes w8 _ ns6 foot x HA8.out HXT.out).mono ?_
        rintro e w9 ⟨ls, rfl, hw, hb⟩
        have hmany := hw.many HND.out HXR.out
        simp only [List.length_cons] at hmany
        have hm1 : (1 : Int) ≤ (rest.length : Int) + 1 := by omega
        have hm2 : (rest.length : Int) + 1 ≤ (ls.length : Int) := by omega
        have HB9 := Lib.hid (HB8.out.trans (hb.mono HB8.out.size))
        clear hw hb
        go_wp2_with fail
        go_ret
        exact ⟨by first | rfl | (simp; omega), HB1.out.trans (HB9.out.mono HB1.out.size)⟩

set_option maxRecDepth 100000 in
theorem lifted (os : Os) (started : os.Started) (H : Type) (enc : TypeId × Value → H) :
    ReturnsInHanded {} Tryd.checked os 9 .any (fun w args => (Rows.fixManySpec.pre enc Tryd.prog Tryd.f9 [] false w args ∧ laidMetH Tryd.prog laidTab w) ∧ sizedMet enc Tryd.prog Tryd.f9 (OpenSpec.ofChange Rows.fixManySpec) false w args)
      (Rows.fixManySpec.post enc Tryd.prog Tryd.f9 false true false false) := by
  refine returnsInHanded_of_change_and (C := Tryd.checked) (X := fun w _ => laidMetH Tryd.prog laidTab w) (fun _ _ _ hh h => h.of_heap hh) ownDoor started (by kernel_rfl) Tryd.func9
    (ChangeSpec.witness_shaped (enc := enc) (C := Tryd.checked) (os := os) (X := fun w _ => laidMetH Tryd.prog laidTab w) false (World.doorLaid Tryd.prog 400 os) #[.int .u8 0, .slice none 0 0] 8 rfl (World.shaped_of_RefB (by kernel_rfl) (by kernel_rfl)) (by kernel_rfl) (by kernel_rfl) (by kernel_rfl) (door_met os _)) ?_
  intro W base args ds gs before hval0 hW _ hsz hL _
  have hval : ∀ (j : Nat) t v, Tryd.f9.params[j]? = some t → args[j]? = some v → Value.okWide Tryd.prog W .any base t v := hval0
  have hW' := hW
  obtain ⟨p, q, hA0, hV, rfl, hfz, hnd⟩ := hW
  have hA : DataW.TrodAll enc Tryd.prog W 0 (fun _ => true) true Tryd.f9.params.toList args.toList ds p := hA0
  rw [Tryd.params9] at hA hval
  obtain ⟨v0, vs0, d0, ds0, p0, q0, hargs, rfl, rfl, h0, r0⟩ := trodAll_cons hA
  obtain ⟨v1, vs1, d1, ds1, p1, q1, rfl, rfl, rfl, h1, r1⟩ := trodAll_cons r0
  obtain ⟨rfl, rfl, rfl⟩ := trodAll_nil r1
  obtain rfl : args = #[v0, v1] := by cases args; simp_all
  obtain ⟨rfl, rfl⟩ := trodVars_none hV
  obtain ⟨a0, rfl, rfl, rfl, w0⟩ := open_int Tryd.underlying5 (hval 0 5 v0 rfl rfl) h0
  have w1 : EnvIn W v1 := env_open Tryd.underlying23 Tryd.underlying31 cellsU16 (hval 1 23 v1 rfl rfl) h1
  obtain ⟨hT, hpos⟩ := of_laid hL
  clear hA0 hval0
  simp only [List.append_nil] at hW'
  have hlt := hW'.lt
  refine (walk a0 v1 W w0 w1 hT hpos).mono fun e W' ⟨he, hg⟩ => ?_
  subst he
  exact ⟨_, rfl, post_kept hW' hg (fun _ _ _ => (trodAll_cons_mk (shut_bool Tryd.underlying4 _) trodAll_mk0)) (fun sp hsp => (trodAll_cons_mk (shut_int Tryd.underlying5 w0) (trodAll_cons_mk (WideElems.Trod_stays laidOut (by kernel_rfl) (of_decide_eq_true (by kernel_rfl)) h1 (fun x hx => hg.same (hlt x (by simp; first | exact .inl hx | exact .inr hx | exact hx | exact .inr (.inl hx)))) (fun x hx => hsp x (by simp; first | exact .inl hx | exact .inr hx | exact hx | exact .inr (.inl hx)))) trodAll_mk0))) (fun _ _ => rfl) (by simp)
    (ok_one (by kernel_rfl) rfl (okWide_bool_mk Tryd.underlying4 _))⟩

theorem over : Rows.FixManySaid :=
  OpenClaim.holds_of_wide 9 Tryd.f9 rfl rfl rfl rfl rfl rfl rfl ⟨rfl, rfl, rfl, rfl, rfl⟩ rfl rfl rfl rfl rfl (by kernel_rfl) Tryd.func9 (by kernel_rfl)
    (of_decide_eq_true (by kernel_rfl)) (by unfold Func.isWrapper; first | (rw [if_pos (by decide +kernel)]; kernel_rfl) | (rw [if_neg (by decide +kernel)]; exact ⟨rfl, rfl⟩))
    (fun os started H enc _ => lifted os started H enc)

theorem proved : Rows.FixManyCardSaid :=
  Claim7.holds_tied_plain_at .later [] [.data] true _ false
    over (fun _ h => by cases h) (by kernel_rfl) (fun _ h => by cases h) fixMany_row_tie rfl ⟨rfl, rfl⟩ (by kernel_rfl) rfl
    (fun f fn hf hfn => by
      obtain rfl : f = 9 := Option.some.inj ((show Tryd.prog.funcNamed "crossroads/crossroadslaw3.FixMany" = some 9 by kernel_rfl).symm.trans hf) |>.symm
      obtain rfl : fn = Tryd.f9 := (Option.some.inj (Tryd.func9.symm.trans hfn)).symm
      exact ⟨by kernel_rfl, fun j t ht => by
        rw [Tryd.params9] at ht
        have hm : t ∈ ([5, 23] : List TypeId) := by simpa using Array.mem_of_getElem? ht
        have hall : (([5, 23] : List TypeId).all fun u => !Tryd.prog.wantsStandIn u) = true := by kernel_rfl
        exact (show Tryd.prog.wantsStandIn t = false by simpa using List.all_eq_true.1 hall t hm)⟩)
    (by kernel_rfl)
#print axioms proved
end Go.Proofs.YtchbdnifcckloaaDoor.fixMany
