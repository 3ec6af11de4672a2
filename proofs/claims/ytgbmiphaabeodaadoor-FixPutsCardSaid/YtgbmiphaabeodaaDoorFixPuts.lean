/-
  The law FixPuts: numbers in the place of variables: the value is as under that assignment, whatever the others are; with all of them it is known. No condition.
-/
import Derived.Test.YtgbmiphaabeodaaDoorFixU
import Derived.Test.YtgbmiphaabeodaaDoorCards
import Derived.SevenTiedAt
namespace Go.Proofs.YtgbmiphaabeodaaDoor.fixPuts
open Go.ChangeShapes Go.WideShapes Go.ChangeAt Go.RowKit
set_option linter.unusedVariables false


set_option maxHeartbeats 3200000 in
set_option maxRecDepth 100000 in
theorem walk (v0 : Value) (v1 : Value) (v2 : Value) (w : World) (w0 : RowsIn w v0) (w1 : NumsIn .i64 w v1) (w2 : EnvIn w v2) (hT : Tab w) (hpos : 0 < w.heap.size) :
    Calls Tryd.prog 4 #[v0, v1, v2] w fun e w' => e = .returned (.bool true) ∧ Below w.heap.size w w' := by
  obtain ⟨A, rs, cap, rfl, hc1, hc2, hRb, hR⟩ := w0
  obtain ⟨IA, ids, icap, rfl, hi1, hi2, hIb, hIc, hIw⟩ := w1
  obtain ⟨EA, env, ecap, rfl, he1, he2, hE⟩ := w2
  have HR := Lib.hid hR
  have HRB := Lib.hid hRb
  have HE0 := Lib.hid hE
  have HI0 : Hid (NumsAt .i64 w IA ids) := ⟨hIc, hIb, hIw⟩
  have HT := Lib.hid hT
  unfold maxLen at hi2
  clear hR hE hRb hIc hIb hIw
  by_cases hb1 : 100 < rs.length
  · go_enter Tryd.func4, Tryd.ntmps4
    go_wp2_with fail
    refine (awake3_any _ hT hpos).mono ?_
    rintro e w1 ⟨rfl, hb⟩
    go_wp2_with fail
    go_ret
    exact ⟨rfl, hb⟩
  by_cases hb2 : 40 < ids.length
  · go_enter Tryd.func4, Tryd.ntmps4
    go_wp2_with fail
    refine (awake3_any _ hT hpos).mono ?_
    rintro e w1 ⟨rfl, hb⟩
    go_wp2_with fail
    go_ret
    exact ⟨rfl, hb⟩
  by_cases hb3 : 40 < env.length
  · go_enter Tryd.func4, Tryd.ntmps4
    go_wp2_with fail
    refine (awake3_any _ hT hpos).mono ?_
    rintro e w1 ⟨rfl, hb⟩
    go_wp2_with fail
    go_ret
    exact ⟨rfl, hb⟩
  have hb1' : rs.length ≤ 100 := by omega
  have hb2' : ids.length ≤ 40 := by omega
  have hb3' : env.length ≤ 40 := by omega
  clear hb1 hb2 hb3
  obtain ⟨i0, hi0, hz0, hz1, hz2⟩ := info_parts infoU
  have HJ := Lib.hid (And.intro hi0 (And.intro hz0 (And.intro hz1 hz2)))
  clear hi0 hz0 hz1 hz2
  have mk := make64
  go_enter Tryd.func4, Tryd.ntmps4
  go_wp2_with fail
  refine (awake3_any _ hT hpos).mono ?_
  rintro e w1 ⟨rfl, hb⟩
  have HB1 := Lib.hid hb
  have HR1 := Lib.hid (HR.out.from_ HRB.out hb)
  clear hb hT
  go_wp2_with fail
  refine (new_any _).mono ?_
  rintro e w2 ⟨rfl, ha, hb⟩
  have HC := Lib.hid (Cur.of_new ha hb)
  clear ha hb
  go_wp2_with fail
  refine (build_any w1 w2 _ cap A rs HC.out HR1.out (by omega) hc1 hc2).mono ?_
  rintro e w3 ⟨ns, ms, LA, lcap, rfl, C3, row3, mok, ml, nl⟩
  have HC3 := Lib.hid C3
  have HROW := Lib.hid row3
  have HMOK := Lib.hid mok
  have hml : ms.length ≤ 200 := by omega
  have HML := Lib.hid (show ms.length ≤ 100 by omega)
  have HNL := Lib.hid nl
  have HB3 : Hid (Below w.heap.size w w3) := HB1.out.trans (C3.below0.mono HB1.out.size)
  have HE3 := Lib.hid (HE0.out.from_ HB3.out)
  have HI3 := Lib.hid (HI0.out.keep HB3.out)
  clear C3 row3 mok nl ml
  go_wp2_with fail
  clear mk
  have HZ0 : Hid (Lst (w3.alloc (.cells (ua z64) 24)) w3.heap.size (evz 0)) := ⟨by rw [evz_zero]; exact Has.new w3 _ _, evz_len 0, evz_rng 0⟩
  go_loopw [11] (fun i wr => ∃ j : Nat, j ≤ 64 ∧ i = .int .i64 j ∧ Lst wr w3.heap.size (evz j) ∧ Below w3.heap.size w3 wr) (fun i _ => 64 - (intOf i).toNat)
  case atStart => exact ⟨0, by omega, rfl, HZ0.out, (Below.refl _ _).alloc (Nat.le_refl _) _⟩
  case round =>
    obtain ⟨j, hj, rfl, hrel, hbb⟩ := hrel
    have R := Lib.hid hrel
    have BB := Lib.hid hbb
    clear hrel hbb
    by_cases hjl : j < 64
    · obtain ⟨gx, gx0, gx1⟩ := R.out.at hjl
      have fx : ∀ i, wr.frozen? ⟨w3.heap.size, i, none⟩ = false := R.out.has.free
      have l1 : w3.heap.size < wr.heap.size := R.out.has.lt
      have hcv := en_wrap j
      have HEN := Lib.hid (show 0 ≤ en j ∧ en j ≤ 65535 by unfold en; omega)
      have HSU := Lib.hid (evz_succ hjl)
      generalize (evz j).getD j 0 = xv at gx gx0 gx1
      generalize en j = y at *
      go_wp2_with fail
      go_roundw
      case rel => exact ⟨j + 1, by omega, by go_num, by rw [← HSU.out]; exact R.out.put j HEN.out.1 HEN.out.2, BB.out.setCell (Nat.le_refl _) _⟩
      case measure => simp [intOf]; omega
    · obtain rfl : j = 64 := by omega
      have HEV := Lib.hid R.out.env
      have HEL := R.out.has
      have hlE : w3.heap.size < wr.heap.size := HEL.lt
      have HHE := Lib.hid HEL
      clear HEL R hjl hj
      have HEE : Hid (Lst wr w3.heap.size (evz 64)) := ⟨HHE.out, evz_len 64, evz_rng 64⟩
      by_cases hne : ¬ ids.length = env.length
      · have h1 : ((ids.length : Int) == (env.length : Int)) = false := by simp; omega
        have h2 : (ids.length == env.length) = false := by simp; omega
        have CE := Lib.hid (some_none w1 wr w1.heap.size ns _ 0 IA EA ids.length env.length icap ecap (HC3.out.below BB.out) (wdt_none (by unfold isT; omega)))
        clear hne
        by_cases hm0 : ms.length = 0
        · have hm1 : ((ms.length : Int) == 0) = true := by rw [hm0]; rfl
          go_wp2_with fail
          refine CE.out.mono ?_
          rintro e w5 ⟨rfl, hb⟩
          have HB5 : Hid (Below w.heap.size w w5) := (HB3.out.trans (BB.out.mono HB3.out.size)).trans (hb.mono (by have := HB3.out.size; have := BB.out.size; omega))
          clear hb
          go_wp2_with fail
          go_ret
          exact ⟨rfl, HB5.out⟩
        · have hm1 : ((ms.length : Int) == 0) = false := beq_eq_false_iff_ne.2 (by omega)
          go_wp2_with fail
          refine CE.out.mono ?_
          rintro e w5 ⟨rfl, hb⟩
          have HB5 : Hid (Below w.heap.size w w5) := (HB3.out.trans (BB.out.mono HB3.out.size)).trans (hb.mono (by have := HB3.out.size; have := BB.out.size; omega))
          clear hb
          go_wp2_with fail
          go_ret
          exact ⟨rfl, HB5.out⟩
      replace hne : ids.length = env.length := by omega
      have h1 : ((ids.length : Int) == (env.length : Int)) = true := by simp; omega
      have h2 : (ids.length == env.length) = true := by simp; omega
      have HNE := Lib.hid hne
      have HO : Hid ((wr.alloc (.cells #[] 24)).ownsRow wr.heap.size 24 1 (.slice (some ⟨wr.heap.size, 0, none⟩) 0 0) 0 []) := ⟨rfl, .inr ⟨wr.heap.size, 0, #[], rfl, Nat.le_refl _, heap_alloc_new wr _, Nat.le_refl _, Nat.zero_le _, rfl, rfl⟩⟩
      have HEX : Hid (Has (wr.alloc (.cells #[] 24)) w3.heap.size 24 (ua (evz 64))) := HHE.out.same (alloc_other hlE)
      have BX : Hid (Below w3.heap.size w3 (wr.alloc (.cells #[] 24))) := BB.out.alloc BB.out.size _
      have zi := zero_in
      clear hne
      go_wp2_with (at_builtin; refine wpList_append_own _ rfl _ _ _ rfl wr.heap.size 24 i0 _ 1 2 Tryd.underlying23 HJ.out.1 HJ.out.2.1 HJ.out.2.2.1 HJ.out.2.2.2 rfl (by omega) (.slice (some ⟨wr.heap.size, 0, none⟩) 0 0) 0 [] rfl HO.out ⟨w3.heap.size, 0, none⟩ 64 64 ((evz 64).map (Value.int .u16)) rfl (by rw [List.length_map, evz_len]) (fun j u hu => by
        rw [show ((⟨w3.heap.size, 0, none⟩ : Addr).add j) = ⟨w3.heap.size, j, none⟩ from (by simp only [Addr.add]; simp; exact fun e => e.symm), HEX.out.cell]
        simpa [ua] using hu) (fun u hu => by obtain ⟨z, _, rfl⟩ := List.mem_map.1 hu; rfl) (by unfold maxLen; omega) (by omega) (by simp) ?_; intro v1 wp hown1 hg1 _; have HO1 := Lib.hid hown1; have HG1 := Lib.hid hg1; clear hown1 hg1)
      obtain ⟨pb, pcap, rfl, hpc1, hpc2, PR0⟩ := PR.start (w3 := w3) (wp := wp) (v1 := v1) (B := wr.heap.size) (BX.out.grown HG1.out (by have := BB.out.size; simp; omega) (fun k hk => by injection hk with hk; have hk' : wr.heap.size = k := hk; have := BB.out.size; omega)) (by have := HO1.out; simpa using this) hlE (by have := HG1.out.size; simp at this; omega)
      have HPR0 := Lib.hid PR0
      have HLW : Hid (Lst (wp.alloc (.cells (ba fun _ => false) 39)) w3.heap.size (evz 64)) := by
        have e1 : wp.heap[w3.heap.size]? = (wr.alloc (.cells #[] 24)).heap[w3.heap.size]? := HG1.out.block w3.heap.size (by simp; omega) (fun e => by injection e with e; have e : w3.heap.size = wr.heap.size := e; omega)
        have hx : Lst wp w3.heap.size (evz 64) := HEE.out.same (e1.trans (alloc_other hlE))
        exact hx.same (alloc_other hx.has.lt)
      clear PR0 HO HEX BX HO1 HG1 HHE HEE zi
      generalize wp.heap.size = bb at *
      generalize (wp.alloc (.cells (ba fun _ => false) 39)) = wq at *
      have BQ : Hid (Below w3.heap.size w3 wq) := HPR0.out.below
      have HLN := Lib.hid (show (ids.zip env).length = ids.length by rw [List.length_zip, HNE.out, Nat.min_self])
      have hlv : env.length ≤ ids.length ∧ ids.length ≤ env.length := by have := HNE.out; omega
      go_loopw [16] (fun i wz => ∃ k : Nat, k ≤ ids.length ∧ i = .int .i64 k ∧ PR w3 wz pb bb (gof ((ids.zip env).take k)) ∧ Lst wz w3.heap.size (evz 64)) (fun i _ => ids.length - (intOf i).toNat)
      case atStart => exact ⟨0, by omega, rfl, HPR0.out, HLW.out⟩
      case round =>
        obtain ⟨k, hk, rfl, hrel, hlst⟩ := hrel
        have R := Lib.hid hrel
        have RL := Lib.hid hlst
        clear hrel hlst
        by_cases hlt : k < ids.length
        · obtain ⟨z, hz⟩ : ∃ z, ids[k]? = some z := ⟨_, List.getElem?_eq_getElem hlt⟩
          obtain ⟨v, hv⟩ : ∃ v, env[k]? = some v := ⟨_, List.getElem?_eq_getElem (by omega)⟩
          obtain ⟨aI, rfl, hcI⟩ := (HI3.out.keep R.out.below).get k z hz
          obtain ⟨aV, rfl, hcV⟩ := (HE3.out.from_ R.out.below).get k v hv
          have hvr := HE3.out.rng v (List.mem_of_getElem? hv)
          obtain ⟨v0, v1⟩ := hvr
          have haI : aI.block < w3.heap.size := HI3.out.lt aI rfl
          have haV : aV.block < w3.heap.size := HE3.out.lt aV rfl
          have haI' : aI.block < wr.heap.size := Nat.lt_of_lt_of_le haI R.out.below.size
          have haV' : aV.block < wr.heap.size := Nat.lt_of_lt_of_le haV R.out.below.size
          have HS := Lib.hid (gof_take (l := ids.zip env) (k := k) (p := (z, v)) (by rw [List.getElem?_zip_eq_some]; exact ⟨hz, hv⟩))
          have hhb : bb < wr.heap.size := R.out.has.lt
          have hpb : pb < wr.heap.size := R.out.plt
          have hpge := R.out.pge
          have hhge := R.out.hge
          have hpne := R.out.ne
          have hfr : ∀ i, wr.frozen? ⟨bb, i, none⟩ = false := R.out.has.free
          have hfp : ∀ i, wr.frozen? ⟨pb, i, none⟩ = false := R.out.pfree
          have hkv : k < env.length := by omega
          clear hz hv
          generalize gof ((ids.zip env).take k) = g at R HS
          by_cases z0 : z < 0
          · have HG := Lib.hid (HS.out.trans (show gput g z v = g by unfold gput; rw [if_neg (by omega)]))
            go_wp2_with fail
            go_roundw
            case rel => exact ⟨k + 1, by omega, by go_num, by rw [HG.out]; exact R.out, RL.out⟩
            case measure => simp [intOf]; omega
          by_cases z1 : 64 ≤ z
          · have HG := Lib.hid (HS.out.trans (show gput g z v = g by unfold gput; rw [if_neg (by omega)]))
            have z0' : 0 ≤ z := by omega
            clear z0
            go_wp2_with fail
            go_roundw
            case rel => exact ⟨k + 1, by omega, by go_num, by rw [HG.out]; exact R.out, RL.out⟩
            case measure => simp [intOf]; omega
          obtain ⟨id, rfl⟩ := Int.eq_ofNat_of_zero_le (show 0 ≤ z by omega)
          have hid : id < 64 := by omega
          have hid' : (id : Int) < 64 := by omega
          clear z0 z1
          have gi := ba_at R.out.has hid
          obtain ⟨u0, gp⟩ := R.out.pcell hid
          by_cases hg : g id = none
          · have HG := Lib.hid (HS.out.trans (show gput g (id : Int) v = fun i => if i = id then some v else g i by unfold gput; rw [if_pos ⟨by omega, hid', by rw [Int.toNat_natCast]; exact hg⟩, Int.toNat_natCast]))
            have HOK := Lib.hid (show GOk (fun i => if i = id then some v else g i) from by
              have := R.out.ok.put (id : Int) v0 v1
              rw [← HS.out, HG.out] at this; exact this)
            have HST := Lib.hid (fun (W : World) he h1 h2 h3 => R.out.step (W := W) hid v HOK.out he h1 h2 h3)
            rw [hg] at gi
            simp only [Option.isSome_none] at gi
            clear hg
            go_wp2_with fail
            have hq1 : (aV.add k).block ≠ bb := by rw [add_block]; omega
            have hq2 : (aV.add k).block ≠ pb := by rw [add_block]; omega
            have hq3 : (aI.add k).block ≠ bb := by rw [add_block]; omega
            have hq4 : (aI.add k).block ≠ pb := by rw [add_block]; omega
            have KA : ∀ (W : World) (o : Nat) (u : Value), (W.cell? (aI.add k) = some (.int .i64 (id : Int)) ∧ W.cell? (aV.add k) = some (.int .u16 v)) → ((W.setCell ⟨bb, o, none⟩ u).cell? (aI.add k) = some (.int .i64 (id : Int)) ∧ (W.setCell ⟨bb, o, none⟩ u).cell? (aV.add k) = some (.int .u16 v)) := fun W o u h => ⟨(World.cell?_of_block (set_other (p := ⟨bb, o, none⟩) hq3)).trans h.1, (World.cell?_of_block (set_other (p := ⟨bb, o, none⟩) hq1)).trans h.2⟩
            have KB : ∀ (W : World) (o : Nat) (u : Value), (W.cell? (aI.add k) = some (.int .i64 (id : Int)) ∧ W.cell? (aV.add k) = some (.int .u16 v)) → ((W.setCell ⟨pb, o, none⟩ u).cell? (aI.add k) = some (.int .i64 (id : Int)) ∧ (W.setCell ⟨pb, o, none⟩ u).cell? (aV.add k) = some (.int .u16 v)) := fun W o u h => ⟨(World.cell?_of_block (set_other (p := ⟨pb, o, none⟩) hq4)).trans h.1, (World.cell?_of_block (set_other (p := ⟨pb, o, none⟩) hq2)).trans h.2⟩
            go_region_held3 (fun w' => w'.cell? (aI.add k) = some (.int .i64 (id : Int)) ∧ w'.cell? (aV.add k) = some (.int .u16 v)) (first | go_keep | (exact KA _ _ _ (by assumption)) | (exact KB _ _ _ (by assumption)) | (exact KA _ _ _ ⟨by assumption, by assumption⟩) | (exact KB _ _ _ ⟨by assumption, by assumption⟩)) (fail)
            go_wp2_with fail
            go_roundw
            case rel => exact ⟨k + 1, by omega, by go_num, by rw [HG.out]; exact HST.out _ (.inl rfl) rfl rfl rfl, (R.out.lst RL.out id id (.bool true) (.int .u16 v)).same rfl⟩
            case measure => simp [intOf]; omega
          · obtain ⟨u, hu⟩ : ∃ u, g id = some u := by
              cases h : g id with
              | none => exact absurd h hg
              | some u => exact ⟨u, rfl⟩
            have HG := Lib.hid (HS.out.trans (show gput g (id : Int) v = g by unfold gput; rw [if_neg (by rw [Int.toNat_natCast, hu]; simp)]))
            rw [hu] at gi
            simp only [Option.isSome_some] at gi
            clear hg hu
            go_wp2_with fail
            go_roundw
            case rel => exact ⟨k + 1, by omega, by go_num, by rw [HG.out]; exact R.out, RL.out⟩
            case measure => simp [intOf]; omega
        · obtain rfl : k = ids.length := by omega
          have e := Lib.hid (show (ids.zip env).take ids.length = ids.zip env from List.take_of_length_le (by rw [HLN.out]; exact Nat.le_refl _))
          rw [e.out] at R
          have HPV := Lib.hid (pv_len (gof (ids.zip env)))
          have HRB4 : Hid (Below w3.heap.size w3 wr) := R.out.below
          have CV := values_law wr _ lcap pcap LA (some ⟨pb, 0, none⟩) ns ms (pv (gof (ids.zip env))) (row_from HROW.out HRB4.out) HMOK.out HC3.out.wf R.out.env hml
          rw [HPV.out] at CV
          go_wp2_with fail
          (with_reducible refine CV.mono ?_)
          rintro e w4 ⟨WA, wcap, rfl, own4, hb4⟩
          rw [vl_len] at own4
          have hwl : (vl ns ms (pv (gof (ids.zip env)))).length = ms.length := vl_len ns ms _
          have hwc : ms.length ≤ wcap ∧ wcap ≤ 9223372036854775807 ∨ ms.length = 0 := by
            rcases own4.2 with ⟨_, h0⟩ | ⟨g, c, cur, e, _, _, h1, h2, _⟩
            · exact .inr h0
            · injection e with _ _ e; subst e; unfold maxLen at h2; exact .inl ⟨h1, by omega⟩
          have HQ : Hid (∃ Q : Nat → Prop, Cur w1 w4 w1.heap.size ns Q ∧ (∀ b, Value.ownBlock (.slice LA ms.length lcap) = some b → Q b) ∧ (∀ b, w3.heap.size ≤ b → b < w4.heap.size → Q b)) :=
            ⟨fun b => Value.ownBlock (.slice LA ms.length lcap) = some b ∨ (w3.heap.size ≤ b ∧ b < w4.heap.size), HC3.out.more (.inr trivial) (Nat.le_refl _) (fun b hb => hb) (HRB4.out.trans (hb4.mono HRB4.out.size)), fun b hb => .inl hb, fun b h1 h2 => .inr ⟨h1, h2⟩⟩
          have hs4 := hb4.size
          have hs3 := HRB4.out.size
          have HRL4 := Lib.hid (row_from (row_from HROW.out HRB4.out) hb4)
          have HRW4 := Lib.hid own4
          have HB4 : Hid (Has w4 bb 39 (ba fun i => (gof (ids.zip env) i).isSome)) := R.out.has.same (hb4.block _ R.out.has.lt)
          have HL4 : Hid (Lst w4 w3.heap.size (evz 64)) := RL.out.same (hb4.block _ RL.out.has.lt)
          have hhge := R.out.hge
          have HGO : Hid (GOk (gof (ids.zip env))) := R.out.ok
          have HVA := Lib.hid (fun (k : Nat) (m : Md) (h : ms[k]? = some m) => show (vl ns ms (pv (gof (ids.zip env)))).getD k 0 = V ns (pv (gof (ids.zip env))) m.t by rw [List.getD_eq_getElem?_getD, vl_at _ h]; rfl)
          obtain ⟨Q, hcq, q1, q2⟩ := HQ.out
          have HL0 := Lib.hid (show LB 200 w1 w4 w4 w1.heap.size ns Q 0 ns from ⟨hcq, ⟨[], by simp⟩, by omega, fun _ _ => rfl, Nat.le_refl _⟩)
          have Q1 := Lib.hid q1
          have HBQ : Hid (Q bb) := q2 _ (Nat.le_of_lt hhge) HB4.out.lt
          have HEQ : Hid (Q w3.heap.size) := q2 _ (Nat.le_refl _) HL4.out.has.lt
          have HWQ : Hid (∀ b, Value.ownBlock (.slice WA ms.length wcap) = some b → Q b) := fun b hb => by
            refine q2 b ?_ ?_
            · rcases own4.2 with ⟨e2, _⟩ | ⟨g', c', cur, e2, hge, _⟩
              · rw [e2] at hb; cases hb
              · rw [e2] at hb
                have : g' = b := by simpa [Value.ownBlock] using hb
                omega
            · obtain ⟨cur, hc⟩ := row_block own4 hb
              exact hc.lt
          have HI1 := Lib.hid (HI0.out.keep HB1.out)
          have HE1 := Lib.hid (HE0.out.from_ HB1.out)
          clear own4 hb4 HQ hcq q1 q2 R RL CV HPV HLN
          generalize vl ns ms (pv (gof (ids.zip env))) = xs at *
          have HSO := Lib.hid (fun (wr : World) (nsk : List Nd) (x : Int) (C : Cur w1 wr w1.heap.size nsk Q) (hx : isT nsk x) (hxl : x ≤ 200) (hl : nsk.length ≤ 60000) => some_any w1 wr w1.heap.size 200 nsk Q x IA EA ids env icap ecap C hx (HT.out.below (HB1.out.trans (C.below0.mono HB1.out.size)) hpos) (by have := HB1.out.size; have := C.below0.size; omega) (by omega) (HI1.out.keep C.below0) (HE1.out.from_ C.below0) HNE.out (by omega) (fun ls h => Nat.le_trans h.len (by omega)) (by decide) (by omega))
          generalize gof (ids.zip env) = g at *
          go_wp2_with fail
          go_loopw [18] (fun i wr => ∃ (k : Nat) (nsk : List Nd), k ≤ ms.length ∧ i = .int .i64 k ∧ LB 200 w1 w4 wr w1.heap.size ns Q k nsk) (fun i _ => ms.length - (intOf i).toNat)
          case atStart => exact ⟨0, ns, by omega, rfl, HL0.out⟩
          case round =>
            obtain ⟨k, nsk, hk, rfl, hrel⟩ := hrel
            have R := Lib.hid hrel
            clear hrel
            by_cases hlt : k < ms.length
            · obtain ⟨m, hm⟩ : ∃ m, ms[k]? = some m := ⟨_, List.getElem?_eq_getElem hlt⟩
              have K := Lib.hid (HMOK.out k m hm)
              have HX := Lib.hid (HVA.out k m hm)
              obtain ⟨lg, lc, hLA, hlg, hlb, hlc1, hlc2, hc0⟩ := row_md HRL4.out hm
              injection hLA with h1 h2 h3
              subst h1; subst h3
              have F0 : Hid (w4.cell? ⟨lg, k * 11, none⟩ = some (.int .i64 m.t)) := hc0 0 (by decide)
              have F7 : Hid (w4.cell? ⟨lg, k * 11 + 7, none⟩ = some (.int .i64 m.w)) := hc0 7 (by decide)
              have HLQ : Hid (Q lg) := Q1.out lg rfl
              have hkx : k < xs.length := by omega
              obtain ⟨wg, wc, hWA, hwg, hwn, hwc1, hcw⟩ := rowv_at HRW4.out (i := k) (u := .int .u16 (xs.getD k 0)) (by rw [show u16s xs = xs.map (Value.int .u16) from rfl, List.getElem?_map, List.getD_eq_getElem?_getD, List.getElem?_eq_getElem hkx]; rfl)
              injection hWA with h1 h4 h3
              subst h1; subst h3
              have FW := Lib.hid hcw
              have HGQ : Hid (Q wg) := HWQ.out wg rfl
              unfold maxLen at hlc2 hwc1
              have f0 : wr.cell? ⟨lg, k * 11, none⟩ = some (.int .i64 m.t) := (World.cell?_of_block (R.out.q lg HLQ.out)).trans F0.out
              have HXT : Hid (isT nsk m.t) := by
                obtain ⟨l, hl⟩ := R.out.ext
                exact ⟨K.out.t.1, by rw [hl, List.length_append]; have := K.out.t.2; omega⟩
              have CS := Lib.hid (HSO.out wr nsk m.t R.out.cur HXT.out (by have := K.out.t.2; have := HNL.out; omega) (by have := R.out.len; have := HNL.out; have := HML.out; omega))
              have HXK := Lib.hid (R.out.cur.wf)
              have HXE := Lib.hid R.out.ext
              clear hm hc0 h2 hcw h4
              go_wp2_with fail
              refine CS.out.mono ?_
              rintro e w5 ⟨y, nsk', rfl, N5, ⟨hyt, hyr⟩, _⟩
              obtain ⟨hpw, hpv⟩ := put_worth HC3.out.wf R.out.cur.wf N5.cur.wf K.out.t R.out.ext hyt hyr
              rw [K.out.w] at hpw
              rw [← HX.out] at hpv
              have HT5 : Hid (isT nsk' m.t) := N5.isT HXT.out
              have HKN : Hid (allg g (bl (Iv nsk' m.t)) = true → isC nsk' y) := fun h => put_known R.out.cur.wf N5.cur.wf HXT.out hyt hyr fun i hi => by
                rw [← tr_iv R.out.cur.wf, ← N5.tr HXT.out, tr_iv N5.cur.wf] at hi
                exact List.all_eq_true.1 h i hi
              have HYT := Lib.hid hyt
              have R := Lib.hid (R.out.next N5)
              have HFC := Lib.hid (fun (W : World) (r : LB 200 w1 w4 W w1.heap.size ns Q (k + 1) nsk') => show W.cell? ⟨lg, k * 11 + 7, none⟩ = some (.int .i64 m.w) ∧ W.cell? ⟨wg, k, none⟩ = some (.int .u16 (xs.getD k 0)) from ⟨(World.cell?_of_block (r.q lg HLQ.out)).trans F7.out, (World.cell?_of_block (r.q wg HGQ.out)).trans FW.out⟩)
              have HFT := Lib.hid (fun (W : World) (r : LB 200 w1 w4 W w1.heap.size ns Q (k + 1) nsk') => show W.cell? ⟨lg, k * 11, none⟩ = some (.int .i64 m.t) from (World.cell?_of_block (r.q lg HLQ.out)).trans F0.out)
              have HWd := Lib.hid (fun (W : World) (r : LB 200 w1 w4 W w1.heap.size ns Q (k + 1) nsk') => show Calls Tryd.prog 14 #[ptr w1.heap.size, .int .i64 y] W (fun e w' => e = .returned (.int .i64 m.w) ∧ Below W.heap.size W w') by
                have := r_width r.cur y
                rw [hpw] at this; exact this)
              have HEv := Lib.hid (fun (W : World) (r : LB 200 w1 w4 W w1.heap.size ns Q (k + 1) nsk') => show Calls Tryd.prog 10 #[ptr w1.heap.size, .int .i64 y, .slice (some ⟨w3.heap.size, 0, none⟩) 64 64] W (fun e w' => e = .returned (.int .u16 (xs.getD k 0)) ∧ Below W.heap.size W w') by
                have := r_eval r.cur (some ⟨w3.heap.size, 0, none⟩) 64 (evz 64) y (HL4.out.same (r.q _ HEQ.out)).env
                rw [evz_len, hpv] at this; exact this)
              have f7 : w5.cell? ⟨lg, k * 11 + 7, none⟩ = some (.int .i64 m.w) := (HFC.out w5 R.out).1
              have fw : w5.cell? ⟨wg, k, none⟩ = some (.int .u16 (xs.getD k 0)) := (HFC.out w5 R.out).2
              clear N5 hyt hyr hpw hpv CS HX f0
              generalize xs.getD k 0 = v at *
              go_wp2_with fail
              go_region_held3 (fun w' => w'.cell? ⟨lg, k * 11 + 7, none⟩ = some (.int .i64 m.w) ∧ w'.cell? ⟨wg, k, none⟩ = some (.int .u16 v)) (go_keep) (first
                | (go_at_call 14; refine (HWd.out _ (by exact R.out.alike rfl rfl rfl rfl)).mono ?_; rintro e we ⟨rfl, hb⟩; have R := Lib.hid (LB.on R.out hb rfl rfl rfl rfl); have f7 : we.cell? ⟨lg, k * 11 + 7, none⟩ = some (.int .i64 m.w) := (HFC.out we R.out).1; have fw : we.cell? ⟨wg, k, none⟩ = some (.int .u16 v) := (HFC.out we R.out).2; clear hb)
                | (go_at_call 10; refine (HEv.out _ (by exact R.out.alike rfl rfl rfl rfl)).mono ?_; rintro e we ⟨rfl, hb⟩; have R := Lib.hid (LB.on R.out hb rfl rfl rfl rfl); have f7 : we.cell? ⟨lg, k * 11 + 7, none⟩ = some (.int .i64 m.w) := (HFC.out we R.out).1; have fw : we.cell? ⟨wg, k, none⟩ = some (.int .u16 v) := (HFC.out we R.out).2; clear hb))
              have f0 : we.cell? ⟨lg, k * 11, none⟩ = some (.int .i64 m.t) := HFT.out _ R.out
              have CVS := Lib.hid (r_vars R.out.cur m.t HT5.out (HT.out.below (HB1.out.trans (R.out.cur.below0.mono HB1.out.size)) hpos))
              go_wp2_with fail
              refine CVS.out.mono ?_
              rintro e w7 ⟨VA, vc, rfl, hown, hbl⟩
              have R := Lib.hid (R.out.below hbl)
              have HOWN := Lib.hid hown
              have hvl : (bl (Iv nsk' m.t)).length ≤ 64 := bl_length _
              have HLT := Lib.hid (mem_ints (n := Iv nsk' m.t))
              have HB7 : Hid (Has w7 bb 39 (ba fun i => (g i).isSome)) := HB4.out.same (R.out.q bb HBQ.out)
              clear hbl hown CVS f0 f7 fw
              generalize bl (Iv nsk' m.t) = l at *
              go_wp2_with fail
              go_loopw [21, 23] (fun a i wz => wz = w7 ∧ ∃ q : Nat, q ≤ l.length ∧ i = .int .i64 q ∧ a = .bool (allg g (l.take q))) (fun _ i _ => l.length - (intOf i).toNat)
              case atStart => exact ⟨rfl, 0, by omega, rfl, rfl⟩
              case round =>
                obtain ⟨hw, q, hq, rfl, rfl⟩ := hrel
                subst hw
                by_cases hql : q < l.length
                · have HAS := Lib.hid (allg_succ (g := g) hql)
                  have hid := HLT.out _ (List.getElem_mem hql)
                  obtain ⟨vg, vc2, hVA, hvg, hvn, hvc, hcq⟩ := rowv_at HOWN.out (i := q) (u := .int .i64 ((l[q] : Nat) : Int)) (by simp [ints, hql])
                  injection hVA with h1 h4 h3
                  subst h1; subst h3
                  unfold maxLen at hvc
                  have gi := ba_at HB7.out hid
                  clear h4
                  generalize l[q] = id at *
                  have hid' : (id : Int) < 64 := by omega
                  cases hA : allg g (l.take q) with
                  | false =>
                    have HA := Lib.hid (HAS.out.trans (by rw [hA]; rfl : _ = false))
                    clear hA HAS
                    go_wp2_with fail
                    go_roundw
                    case rel => exact ⟨trivial, q + 1, by omega, by go_num, by rw [HA.out]⟩
                    case measure => simp [intOf]; omega
                  | true =>
                    have HA := Lib.hid (HAS.out.trans (by rw [hA]; rfl : _ = (g id).isSome))
                    clear hA HAS
                    generalize (g id).isSome = b at *
                    go_wp2_with fail
                    go_roundw
                    case rel => exact ⟨trivial, q + 1, by omega, by go_num, by rw [HA.out]⟩
                    case measure => simp [intOf]; omega
                · obtain rfl : q = l.length := by omega
                  rw [List.take_length]
                  by_cases hC : isC nsk' y
                  · obtain ⟨n, hn, hn1⟩ := hC
                    have CK := Lib.hid (r_known R.out.cur y n hn hn1)
                    clear hn hn1
                    generalize allg g l = b at *
                    cases b
                    · go_wp2_with fail
                      refine CK.out.mono ?_
                      rintro e w8 ⟨rfl, hbl⟩
                      have R := Lib.hid (R.out.below hbl)
                      clear hbl
                      go_wp2_with fail
                      go_roundw
                      case rel => exact ⟨k + 1, nsk', by omega, by go_num, R.out⟩
                      case measure => simp [intOf]; omega
                    · go_wp2_with fail
                      refine CK.out.mono ?_
                      rintro e w8 ⟨rfl, hbl⟩
                      have R := Lib.hid (R.out.below hbl)
                      clear hbl
                      go_wp2_with fail
                      go_roundw
                      case rel => exact ⟨k + 1, nsk', by omega, by go_num, R.out⟩
                      case measure => simp [intOf]; omega
                  · have CK := Lib.hid (r_known_no R.out.cur y hC)
                    have hA : allg g l = false := Bool.eq_false_iff.2 fun h => hC (HKN.out h)
                    rw [hA]
                    clear hA hC
                    go_wp2_with fail
                    refine CK.out.mono ?_
                    rintro e w8 ⟨rfl, hbl⟩
                    have R := Lib.hid (R.out.below hbl)
                    clear hbl
                    go_wp2_with fail
                    go_roundw
                    case rel => exact ⟨k + 1, nsk', by omega, by go_num, R.out⟩
                    case measure => simp [intOf]; omega
            · obtain rfl : k = ms.length := by omega
              go_wp2
              go_ret
              exact ⟨rfl, HB1.out.trans (R.out.cur.below0.mono HB1.out.size)⟩

set_option maxRecDepth 100000 in
theorem lifted (os : Os) (started : os.Started) (H : Type) (enc : TypeId × Value → H) :
    ReturnsInHanded {} Tryd.checked os 4 .any (fun w args => (Rows.fixPutsSpec.pre enc Tryd.prog Tryd.f4 [] false w args ∧ laidMetH Tryd.prog laidTab w) ∧ sizedMet enc Tryd.prog Tryd.f4 (OpenSpec.ofChange Rows.fixPutsSpec) false w args)
      (Rows.fixPutsSpec.post enc Tryd.prog Tryd.f4 false true false false) := by
  refine returnsInHanded_of_change_and (C := Tryd.checked) (X := fun w _ => laidMetH Tryd.prog laidTab w) (fun _ _ _ hh h => h.of_heap hh) ownDoor started (by kernel_rfl) Tryd.func4
    (ChangeSpec.witness_shaped (enc := enc) (C := Tryd.checked) (os := os) (X := fun w _ => laidMetH Tryd.prog laidTab w) false (World.doorLaid Tryd.prog 400 os) #[.slice none 0 0, .slice none 0 0, .slice none 0 0] 8 rfl (World.shaped_of_RefB (by kernel_rfl) (by kernel_rfl)) (by kernel_rfl) (by kernel_rfl) (by kernel_rfl) (door_met os _)) ?_
  intro W base args ds gs before hval0 hW _ hsz hL _
  have hval : ∀ (j : Nat) t v, Tryd.f4.params[j]? = some t → args[j]? = some v → Value.okWide Tryd.prog W .any base t v := hval0
  have hW' := hW
  obtain ⟨p, q, hA0, hV, rfl, hfz, hnd⟩ := hW
  have hA : DataW.TrodAll enc Tryd.prog W 0 (fun _ => true) true Tryd.f4.params.toList args.toList ds p := hA0
  rw [Tryd.params4] at hA hval
  obtain ⟨v0, vs0, d0, ds0, p0, q0, hargs, rfl, rfl, h0, r0⟩ := trodAll_cons hA
  obtain ⟨v1, vs1, d1, ds1, p1, q1, rfl, rfl, rfl, h1, r1⟩ := trodAll_cons r0
  obtain ⟨v2, vs2, d2, ds2, p2, q2, rfl, rfl, rfl, h2, r2⟩ := trodAll_cons r1
  obtain ⟨rfl, rfl, rfl⟩ := trodAll_nil r2
  obtain rfl : args = #[v0, v1, v2] := by cases args; simp_all
  obtain ⟨rfl, rfl⟩ := trodVars_none hV
  have w0 : RowsIn W v0 := rows_open (hval 0 22 v0 rfl rfl) h0
  have w1 : NumsIn .i64 W v1 := nums_open Tryd.underlying31 Tryd.underlying3 cellsInt (hval 1 31 v1 rfl rfl) h1
  have w2 : EnvIn W v2 := env_open Tryd.underlying23 Tryd.underlying24 cellsU16 (hval 2 23 v2 rfl rfl) h2
  obtain ⟨hT, hpos⟩ := of_laid hL
  clear hA0 hval0
  simp only [List.append_nil] at hW'
  have hlt := hW'.lt
  refine (walk v0 v1 v2 W w0 w1 w2 hT hpos).mono fun e W' ⟨he, hg⟩ => ?_
  subst he
  exact ⟨_, rfl, post_kept hW' hg (fun _ _ _ => (trodAll_cons_mk (shut_bool Tryd.underlying4 _) trodAll_mk0)) (fun sp hsp => (trodAll_cons_mk (WideElems.Trod_stays laidOut (by kernel_rfl) (of_decide_eq_true (by kernel_rfl)) h0 (fun x hx => hg.same (hlt x (by simp; first | exact .inl hx | exact .inr hx | exact hx | exact .inr (.inl hx) | exact .inr (.inr hx)))) (fun x hx => hsp x (by simp; first | exact .inl hx | exact .inr hx | exact hx | exact .inr (.inl hx) | exact .inr (.inr hx)))) (trodAll_cons_mk (WideElems.Trod_stays laidOut (by kernel_rfl) (of_decide_eq_true (by kernel_rfl)) h1 (fun x hx => hg.same (hlt x (by simp; first | exact .inl hx | exact .inr hx | exact hx | exact .inr (.inl hx) | exact .inr (.inr hx)))) (fun x hx => hsp x (by simp; first | exact .inl hx | exact .inr hx | exact hx | exact .inr (.inl hx) | exact .inr (.inr hx)))) (trodAll_cons_mk (WideElems.Trod_stays laidOut (by kernel_rfl) (of_decide_eq_true (by kernel_rfl)) h2 (fun x hx => hg.same (hlt x (by simp; first | exact .inl hx | exact .inr hx | exact hx | exact .inr (.inl hx) | exact .inr (.inr hx)))) (fun x hx => hsp x (by simp; first | exact .inl hx | exact .inr hx | exact hx | exact .inr (.inl hx) | exact .inr (.inr hx)))) trodAll_mk0)))) (fun _ _ => rfl) (by simp)
    (ok_one (by kernel_rfl) rfl (okWide_bool_mk Tryd.underlying4 _))⟩

theorem over : Rows.FixPutsSaid :=
  OpenClaim.holds_of_wide 4 Tryd.f4 rfl rfl rfl rfl rfl rfl rfl ⟨rfl, rfl, rfl, rfl, rfl⟩ rfl rfl rfl rfl rfl (by kernel_rfl) Tryd.func4 (by kernel_rfl)
    (of_decide_eq_true (by kernel_rfl)) (by unfold Func.isWrapper; first | (rw [if_pos (by decide +kernel)]; kernel_rfl) | (rw [if_neg (by decide +kernel)]; exact ⟨rfl, rfl⟩))
    (fun os started H enc _ => lifted os started H enc)

theorem proved : Rows.FixPutsCardSaid :=
  Claim7.holds_tied_plain_at .later [] [.data] true _ false
    over (fun _ h => by cases h) (by kernel_rfl) (fun _ h => by cases h) fixPuts_row_tie rfl ⟨rfl, rfl⟩ (by kernel_rfl) rfl
    (fun f fn hf hfn => by
      obtain rfl : f = 4 := Option.some.inj ((show Tryd.prog.funcNamed "crossroads/crossroadslaw3.FixPuts" = some 4 by kernel_rfl).symm.trans hf) |>.symm
      obtain rfl : fn = Tryd.f4 := (Option.some.inj (Tryd.func4.symm.trans hfn)).symm
      exact ⟨by kernel_rfl, fun j t ht => by
        rw [Tryd.params4] at ht
        have hm : t ∈ ([22, 31, 23] : List TypeId) := by simpa using Array.mem_of_getElem? ht
        have hall : (([22, 31, 23] : List TypeId).all fun u => !Tryd.prog.wantsStandIn u) = true := by kernel_rfl
        exact (show Tryd.prog.wantsStandIn t = false by simpa using List.all_eq_true.1 hall t hm)⟩)
    (by kernel_rfl)
#print axioms proved
end Go.Proofs.YtgbmiphaabeodaaDoor.fixPuts
