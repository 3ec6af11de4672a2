/-
  The law FixParts: put in one behind another, or at once, the value is the same. No condition.
-/
import Derived.Test.YtgbmiphaabeodaaDoorFixPa
import Derived.Test.YtgbmiphaabeodaaDoorCards
import Derived.SevenTiedAt
namespace Go.Proofs.YtgbmiphaabeodaaDoor.fixParts
open Go.ChangeShapes Go.WideShapes Go.ChangeAt Go.RowKit
set_option linter.unusedVariables false


set_option maxHeartbeats 3200000 in
set_option maxRecDepth 100000 in
theorem walk (v0 : Value) (v1 : Value) (v2 : Value) (w : World) (w0 : RowsIn w v0) (w1 : NumsIn .u8 w v1) (w2 : EnvIn w v2) (hT : Tab w) (hpos : 0 < w.heap.size) :
    Calls Tryd.prog 5 #[v0, v1, v2] w fun e w' => e = .returned (.bool true) ∧ Below w.heap.size w w' := by
  obtain ⟨A, rs, cap, rfl, hc1, hc2, hRb, hR⟩ := w0
  obtain ⟨IA, ids, icap, rfl, hi1, hi2, hIb, hIc, hIw⟩ := w1
  obtain ⟨EA, env, ecap, rfl, he1, he2, hE⟩ := w2
  have HR := Lib.hid hR
  have HRB := Lib.hid hRb
  have HE0 := Lib.hid hE
  have HI0 : Hid (NumsAt .u8 w IA ids) := ⟨hIc, hIb, hIw⟩
  have HT := Lib.hid hT
  unfold maxLen at hi2
  clear hR hE hRb hIc hIb hIw
  by_cases hb1 : 100 < rs.length
  · go_enter Tryd.func5, Tryd.ntmps5
    go_wp2_with fail
    refine (awake3_any _ hT hpos).mono ?_
    rintro e w1 ⟨rfl, hb⟩
    go_wp2_with fail
    go_ret
    exact ⟨rfl, hb⟩
  by_cases hb2 : 20 < ids.length
  · go_enter Tryd.func5, Tryd.ntmps5
    go_wp2_with fail
    refine (awake3_any _ hT hpos).mono ?_
    rintro e w1 ⟨rfl, hb⟩
    go_wp2_with fail
    go_ret
    exact ⟨rfl, hb⟩
  by_cases hb3 : ¬ env.length = ids.length
  · have h1 : ((env.length : Int) == (ids.length : Int)) = false := beq_eq_false_iff_ne.2 (by omega)
    have h2 : (env.length == ids.length) = false := beq_eq_false_iff_ne.2 (by omega)
    have h3 : ((env.length : Int) != (ids.length : Int)) = true := by unfold bne; rw [h1]; rfl
    have h4 : (env.length != ids.length) = true := by unfold bne; rw [h2]; rfl
    clear hb3
    go_enter Tryd.func5, Tryd.ntmps5
    go_wp2_with fail
    refine (awake3_any _ hT hpos).mono ?_
    rintro e w1 ⟨rfl, hb⟩
    go_wp2_with fail
    go_ret
    exact ⟨rfl, hb⟩
  replace hb3 : env.length = ids.length := by omega
  have hq1 : ((env.length : Int) == (ids.length : Int)) = true := beq_iff_eq.2 (by omega)
  have hq2 : (env.length == ids.length) = true := beq_iff_eq.2 hb3
  have hq3 : ((env.length : Int) != (ids.length : Int)) = false := by unfold bne; rw [hq1]; rfl
  have hq4 : (env.length != ids.length) = false := by unfold bne; rw [hq2]; rfl
  have hb1' : rs.length ≤ 100 := by omega
  have hb2' : ids.length ≤ 20 := by omega
  have HNE := Lib.hid (show ids.length = env.length by omega)
  clear hb1 hb2 hb3
  obtain ⟨i0, hi0, hz0, hz1, hz2⟩ := info_parts info3
  have HI := Lib.hid (And.intro hi0 (And.intro hz0 (And.intro hz1 hz2)))
  clear hi0 hz0 hz1 hz2
  have mk := make64
  go_enter Tryd.func5, Tryd.ntmps5
  go_wp2_with fail
  refine (awake3_any _ hT hpos).mono ?_
  rintro e w1 ⟨rfl, hb⟩
  have HB1 := Lib.hid hb
  have HR1 := Lib.hid (HR.out.from_ HRB.out hb)
  clear hb hT
  go_wp2_with fail
  refine (new_any _).mono ?_
  rintro e w2 ⟨rfl, ha, hb⟩
  have HC := Lib.hid (Cur.of_new ha hb)
  clear ha hb
  go_wp2_with fail
  refine (build_any w1 w2 _ cap A rs HC.out HR1.out (by omega) hc1 hc2).mono ?_
  rintro e w3 ⟨ns, ms, LA, lcap, rfl, C3, row3, mok, ml, nl⟩
  have HC3 := Lib.hid C3
  have HROW := Lib.hid row3
  have HMOK := Lib.hid mok
  have hml : ms.length ≤ 200 := by omega
  have HNL := Lib.hid nl
  have HB3 : Hid (Below w.heap.size w w3) := HB1.out.trans (C3.below0.mono HB1.out.size)
  have HI3 := Lib.hid (HI0.out.keep HB3.out)
  clear C3 row3 mok nl ml hq1 hq2
  go_wp2_with fail
  clear mk
  have HZ0 : Hid (Lst (w3.alloc (.cells (ua z64) 24)) w3.heap.size (evy 0)) := ⟨by rw [evy_zero]; exact Has.new w3 _ _, evy_len 0, evy_rng 0⟩
  go_loopw [11] (fun i wr => ∃ j : Nat, j ≤ 64 ∧ i = .int .i64 j ∧ Lst wr w3.heap.size (evy j) ∧ Below w3.heap.size w3 wr) (fun i _ => 64 - (intOf i).toNat)
  case atStart => exact ⟨0, by omega, rfl, HZ0.out, (Below.refl _ _).alloc (Nat.le_refl _) _⟩
  case round =>
    obtain ⟨j, hj, rfl, hrel, hbb⟩ := hrel
    have R := Lib.hid hrel
    have BB := Lib.hid hbb
    clear hrel hbb
    by_cases hjl : j < 64
    · obtain ⟨gx, gx0, gx1⟩ := R.out.at hjl
      have fx : ∀ i, wr.frozen? ⟨w3.heap.size, i, none⟩ = false := R.out.has.free
      have l1 : w3.heap.size < wr.heap.size := R.out.has.lt
      have hcv := em_wrap j
      have HEN := Lib.hid (show 0 ≤ em j ∧ em j ≤ 65535 by unfold em; omega)
      have HSU := Lib.hid (evy_succ hjl)
      generalize (evy j).getD j 0 = xv at gx gx0 gx1
      generalize em j = y at *
      go_wp2_with fail
      go_roundw
      case rel => exact ⟨j + 1, by omega, by go_num, by rw [← HSU.out]; exact R.out.put j HEN.out.1 HEN.out.2, BB.out.setCell (Nat.le_refl _) _⟩
      case measure => simp [intOf]; omega
    · obtain rfl : j = 64 := by omega
      have HAR0 : Hid (AR w3 wr (.slice none 0 0) []) := ⟨⟨rfl, .inl ⟨rfl, rfl⟩⟩, BB.out, R.out⟩
      clear R BB hjl hj
      rw [show ((64 : Nat) : Int) = 64 from rfl]
      go_wp2_with fail
      go_loopw [12, 13] (fun v i wz => ∃ k : Nat, k ≤ ids.length ∧ i = .int .i64 k ∧ AR w3 wz v (al (ids.take k))) (fun _ i _ => ids.length - (intOf i).toNat)
      case atStart => exact ⟨0, by omega, rfl, HAR0.out⟩
      case round =>
        obtain ⟨k, hk, rfl, hrel⟩ := hrel
        obtain ⟨I, jcap, rfl⟩ := row_form hrel.row
        have hal : (al (ids.take k)).length = k := by simp [al]; omega
        rw [hal] at hrel ⊢
        have R := Lib.hid hrel
        clear hrel
        by_cases hlt : k < ids.length
        · obtain ⟨z, hz⟩ : ∃ z, ids[k]? = some z := ⟨_, List.getElem?_eq_getElem hlt⟩
          obtain ⟨aI, rfl, hcI⟩ := (HI3.out.keep R.out.below).get k z hz
          have haI' : aI.block < wr.heap.size := Nat.lt_of_lt_of_le (HI3.out.lt aI rfl) R.out.below.size
          obtain ⟨z0, z1⟩ := u8_wf (HI3.out.wf z (List.mem_of_getElem? hz))
          have HS0 : Hid (w3.heap.size ≤ wr.heap.size) := R.out.below.size
          have HAT := Lib.hid (al_take hz)
          obtain ⟨r, hr, hr2⟩ := rem_to z z0
          rw [hr] at HAT
          have HRI : Hid (wr.ownsRow w3.heap.size 3 1 (.slice I k jcap) k ((al (ids.take k)).map (Value.int .i64))) := by have := R.out.row; rw [hal] at this; exact this
          have HST := Lib.hid (fun (w1 : World) (g1 c1 : Nat) (o1 : Obj) h1 k1 => AR.step (w1 := w1) (g1 := g1) (c1 := c1) (o1 := o1) (x := (r : Int)) R.out hal h1 k1)
          clear hz hal
          generalize al (ids.take k) = la at *
          go_wp2_with (at_builtin; refine wpList_append_lies _ rfl _ _ _ rfl w3.heap.size 3 i0 _ 1 8 Tryd.underlying31 HI.out.1 HI.out.2.1 HI.out.2.2.1 HI.out.2.2.2 rfl (by omega) (.slice I k jcap) k (la.map (Value.int .i64)) rfl (HRI.out.alloc _) ⟨wr.heap.size, 0, none⟩ 1 1 [.int .i64 (r : Int)] rfl rfl (World.news_of_block (cs := #[.int .i64 (r : Int)]) (t := 3) (fr := (0, 0)) (heap_alloc_new wr _)) (by simp [Value.oneCell']) (by omega) (by unfold maxLen; omega) (by omega) (by have := HS0.out; simp; omega) (wr.heap.size + 1) (by simp) ?_; intro g1 c1 wp hown1 hg1 hat1 hlt1; have HO1 := Lib.hid hown1; have HG1 := Lib.hid hg1; clear hown1 hg1 hat1 hlt1)
          go_roundw
          case rel => exact ⟨k + 1, by omega, by go_num, by rw [HAT.out]; exact HST.out _ _ _ _ HO1.out HG1.out⟩
          case measure => simp [intOf]; omega
        · obtain rfl : k = ids.length := by omega
          rw [List.take_length] at R
          obtain ⟨w4, rfl⟩ : ∃ W : World, W = wr := ⟨wr, rfl⟩
          have HIW := Lib.hid (show ∀ z ∈ al ids, (Lit.int .i64 z).wf = true from fun z hz => by
            obtain ⟨u, hu, rfl⟩ := List.mem_map.1 hz
            obtain ⟨z0, _⟩ := u8_wf (HI0.out.wf u hu)
            obtain ⟨r, hr, hr2⟩ := rem_to u z0
            rw [hr]; exact WalkArith.wf_i64 (by omega))
          have hal : (al ids).length = ids.length := by simp [al]
          have HAL := Lib.hid hal
          have HIA := Lib.hid (show NumsAt .i64 w4 I (al ids) from nums_row (by have := R.out.row; rw [hal] at this; exact this) HIW.out)
          have HRB4 : Hid (Below w3.heap.size w3 w4) := R.out.below
          have HQ : Hid (∃ Q : Nat → Prop, Cur w1 w4 w1.heap.size ns Q ∧ (∀ b, Value.ownBlock (.slice LA ms.length lcap) = some b → Q b) ∧ (∀ b, w3.heap.size ≤ b → b < w4.heap.size → Q b)) :=
            ⟨fun b => Value.ownBlock (.slice LA ms.length lcap) = some b ∨ (w3.heap.size ≤ b ∧ b < w4.heap.size), HC3.out.more (.inr trivial) (Nat.le_refl _) (fun b hb => hb) HRB4.out, fun b hb => .inl hb, fun b h1 h2 => .inr ⟨h1, h2⟩⟩
          have HRL4 := Lib.hid (row_from HROW.out HRB4.out)
          have HL4 : Hid (Lst w4 w3.heap.size (evy 64)) := R.out.env
          obtain ⟨Q, hcq, q1, q2⟩ := HQ.out
          have HLZ := Lib.hid (show ((al ids).zip env).length = ids.length by rw [List.length_zip, hal, HNE.out, Nat.min_self])
          have HL0 := Lib.hid (show LQ w1 w4 w4 w1.heap.size ns Q (GG ((al ids).zip env)) ns from ⟨hcq, ⟨[], by simp⟩, Cnt.start ns (GG_nil _), fun _ _ => rfl, Nat.le_refl _⟩)
          have Q1 := Lib.hid q1
          have HEQ : Hid (Q w3.heap.size) := q2 _ (Nat.le_refl _) HL4.out.has.lt
          have HIQ : Hid (∀ a, I = some a → Q a.block) := fun a ha => by
            refine q2 _ ?_ (HIA.out.lt a ha)
            rcases R.out.row.2 with ⟨e2, _⟩ | ⟨g', c', cur, e2, hge, _⟩
            · rw [ha] at e2; injection e2 with e2; cases e2
            · rw [ha] at e2; injection e2 with e2; injection e2 with e2; rw [e2]; exact hge
          have hjc : ids.length ≤ jcap ∧ jcap ≤ 9223372036854775807 ∨ ids.length = 0 := by
            rcases R.out.row.2 with ⟨_, h0⟩ | ⟨g, c, cur, e, _, _, h1, h2, _⟩
            · rw [hal] at h0; exact .inr h0
            · injection e with _ _ e; subst e; unfold maxLen at h2; rw [hal] at h1; exact .inl ⟨h1, by omega⟩
          have HE1 := Lib.hid (HE0.out.from_ HB1.out)
          have HBND := Lib.hid (show ∀ (W : World) (nsk : List Nd), LQ w1 w4 W w1.heap.size ns Q (GG ((al ids).zip env)) nsk → nsk.length ≤ 4400 from fun W nsk h => by
            have h1 := h.len
            rw [GG_len, HLZ.out] at h1
            have h2 := HNL.out
            have h3 : (ids.length + 2) * ns.length ≤ 22 * 200 := Nat.mul_le_mul (by omega) h2
            omega)
          -- Some, with whatever numbers, of a term whose tree is a first one's with numbers in it
          have HSO := Lib.hid (fun (W : World) (nsk : List Nd) (x y : Int) (gs : List (Nat → Option Int)) (A B : Option Addr) (is vs : List Int) (ic vc : Nat) (h : LQ w1 w4 W w1.heap.size ns Q (GG ((al ids).zip env)) nsk) (hy : isT nsk y) (ht : tr nsk y = subs (tr ns x) gs) (hI : NumsAt .i64 W A is) (hV : EnvAt W B vs) (hl : is.length = vs.length) (hn : is.length ≤ 40) =>
            some_any w1 W w1.heap.size 200 nsk Q y A B is vs ic vc h.cur hy (HT.out.below (HB1.out.trans (h.cur.below0.mono HB1.out.size)) hpos) (by have := HB1.out.size; have := h.cur.below0.size; omega) (by have := HBND.out W nsk h; omega) hI hV hl (by omega) (fun ls hw => Nat.le_trans (wl_len HC3.out.wf h.cur.wf h.cur.once1 hy ht hw) HNL.out) (by decide) (by have := HBND.out W nsk h; omega))
          have HIAK := Lib.hid (fun (W : World) (nsk : List Nd) (h : LQ w1 w4 W w1.heap.size ns Q (GG ((al ids).zip env)) nsk) => show NumsAt .i64 W I (al ids) from ⟨fun i z hz => by
            obtain ⟨a, ha, hc⟩ := HIA.out.get i z hz
            exact ⟨a, ha, (cell_heap (a := a.add i) (by rw [add_block]; exact h.q _ (HIQ.out a ha))).trans hc⟩, fun a ha => Nat.lt_of_lt_of_le (HIA.out.lt a ha) h.sz, HIA.out.wf⟩)
          clear hcq q1 q2 HQ R hal
          go_wp2_with fail
          obtain ⟨ps, hps⟩ : ∃ ps, (al ids).zip env = ps := ⟨_, rfl⟩
          have HPS := Lib.hid hps
          rw [hps] at HLZ HL0 HBND HSO HIAK
          clear hps
          go_loopw [14] (fun i wz => ∃ (k : Nat) (nsk : List Nd), k ≤ ms.length ∧ i = .int .i64 k ∧ LQ w1 w4 wz w1.heap.size ns Q (GG ps) nsk) (fun i _ => ms.length - (intOf i).toNat)
          case atStart => exact ⟨0, ns, by omega, rfl, HL0.out⟩
          case round =>
            obtain ⟨k, nsk, hk, rfl, hrel⟩ := hrel
            have R := Lib.hid hrel
            clear hrel
            by_cases hlt : k < ms.length
            · obtain ⟨m, hm⟩ : ∃ m, ms[k]? = some m := ⟨_, List.getElem?_eq_getElem hlt⟩
              have K := Lib.hid (HMOK.out k m hm)
              obtain ⟨lg, lc, hLA, hlg, hlb, hlc1, hlc2, hc0⟩ := row_md HRL4.out hm
              injection hLA with h1 h2 h3
              subst h1; subst h3
              have F0 := Lib.hid (hc0 0 (by decide))
              have HLQ : Hid (Q lg) := Q1.out lg rfl
              unfold maxLen at hlc2
              have HFC := Lib.hid (fun (W : World) (nsq : List Nd) (r : LQ w1 w4 W w1.heap.size ns Q (GG ps) nsq) => show W.cell? ⟨lg, k * 11, none⟩ = some (.int .i64 m.t) from (World.cell?_of_block (r.q lg HLQ.out)).trans F0.out)
              have HXT := Lib.hid (show ∀ nsq, (∃ l, nsq = ns ++ l) → isT nsq m.t ∧ (WF nsq → tr nsq m.t = subs (tr ns m.t) []) from fun nsq he => by
                obtain ⟨l, hl⟩ := he
                refine ⟨⟨K.out.t.1, by rw [hl, List.length_append]; have := K.out.t.2; omega⟩, fun hw => ?_⟩
                exact (ext_tr hw ⟨l, hl⟩ K.out.t).2)
              have CS := Lib.hid (HSO.out _ nsk m.t m.t [] I EA (al ids) env jcap ecap R.out (HXT.out nsk R.out.ext).1 ((HXT.out nsk R.out.ext).2 R.out.cur.wf) (HIAK.out _ nsk R.out) (HE1.out.from_ R.out.cur.below0) (by rw [HAL.out]; exact HNE.out) (by rw [HAL.out]; omega))
              rw [HAL.out, HPS.out] at CS
              have f0 := HFC.out _ nsk R.out
              clear hm hc0 h2
              go_wp2_with fail
              refine CS.out.mono ?_
              rintro e w5 ⟨X, ns1, rfl, N5, ⟨hXt, hXr⟩, hXn⟩
              have HX1 := Lib.hid (show isT ns1 X ∧ tr ns1 X = (tr ns m.t).sub (gof ps) from ⟨hXt, by rw [hXr, (HXT.out nsk R.out.ext).2 R.out.cur.wf]; rfl⟩)
              have R := Lib.hid (LQ.next R.out N5 HC3.out.wf ((HXT.out nsk R.out.ext).2 R.out.cur.wf) (GG_all ps) hXn)
              have f0 := HFC.out _ ns1 R.out
              have HM1 := Lib.hid (HXT.out ns1 R.out.ext)
              have HW1 : Hid (WF ns1) := R.out.cur.wf
              clear CS N5 hXt hXr hXn
              go_wp2_with fail
              go_loopw [16, 17, 18] (fun e y i wz => ∃ (q : Nat) (y' : Int) (nsq : List Nd), q ≤ ids.length ∧ i = .int .i64 q ∧ y = .int .i64 y' ∧ e = .int .i64 0 ∧ LQ w1 w4 wz w1.heap.size ns Q (GG ps) nsq ∧ isT nsq y' ∧ tr nsq y' = subs (tr ns m.t) ((gl ps).take q) ∧ ∃ l, nsq = ns1 ++ l) (fun _ _ i _ => ids.length - (intOf i).toNat)
              case atStart => exact ⟨0, m.t, ns1, by omega, rfl, rfl, rfl, R.out, HM1.out.1, HM1.out.2 HW1.out, [], by simp⟩
              case round =>
                obtain ⟨q, y, nsq, hq, rfl, rfl, rfl, hrel, hyt, hyr, hext⟩ := hrel
                have RQ := Lib.hid hrel
                have HY := Lib.hid (And.intro hyt (And.intro hyr hext))
                clear hrel hyt hyr hext
                by_cases hql : q < ids.length
                · have hjc' : ids.length ≤ jcap ∧ jcap ≤ 9223372036854775807 := by omega
                  obtain ⟨z, hz⟩ : ∃ z, (al ids)[q]? = some z := ⟨_, List.getElem?_eq_getElem (by rw [HAL.out]; exact hql)⟩
                  obtain ⟨v, hv⟩ : ∃ v, env[q]? = some v := ⟨_, List.getElem?_eq_getElem (by have := HNE.out; omega)⟩
                  have HP := Lib.hid (show ps[q]? = some (z, v) by rw [← HPS.out, List.getElem?_zip_eq_some]; exact ⟨hz, hv⟩)
                  obtain ⟨a1, hI1, hN1⟩ := nums_one (HIAK.out _ nsq RQ.out) hz
                  obtain ⟨a2, hE2, hN2⟩ := env_one (HE1.out.from_ RQ.out.cur.below0) hv
                  subst hI1; subst hE2
                  have CS := Lib.hid (fun (W : World) (r : LQ w1 w4 W w1.heap.size ns Q (GG ps) nsq) => show Calls Tryd.prog 12 #[ptr w1.heap.size, .int .i64 y, .slice (some (a1.add q)) 1 (jcap - q), .slice (some (a2.add q)) 1 (ecap - q)] W (SomeG 200 w1 W w1.heap.size nsq Q y (gof [(z, v)])) from HSO.out W nsq m.t y _ (some (a1.add q)) (some (a2.add q)) [z] [v] (jcap - q) (ecap - q) r HY.out.1 HY.out.2.1 (by
                    obtain ⟨b, hb, hn⟩ := nums_one (HIAK.out W nsq r) hz
                    injection hb with hb; subst hb; exact hn) (by
                    obtain ⟨b, hb, hn⟩ := env_one (HE1.out.from_ r.cur.below0) hv
                    injection hb with hb; subst hb; exact hn) rfl (by simp))
                  have f0 := HFC.out _ nsq RQ.out
                  have HGT := Lib.hid (And.intro (GG_take HP.out) (gl_take HP.out))
                  have hqe : q < env.length := by have := HNE.out; omega
                  have g3 : ¬ jcap = q := by omega
                  have g4 : ¬ ecap = q := by omega
                  clear hz hv hN1 hN2
                  have s0 : (0 : Int) ≤ (q : Int) := by omega
                  have s1 : (q : Int) ≤ (q : Int) + 1 := by omega
                  have s2 : (q : Int) + 1 ≤ (jcap : Int) := by omega
                  have s3 : (q : Int) + 1 ≤ (ecap : Int) := by omega
                  have s4 : IntKind.i64.wrap ((q : Int) + 1) = (q : Int) + 1 := IntWalk.i64_in _ (by omega)
                  have s5 : ((q : Int) + 1).toNat = q + 1 := by omega
                  have s6 : (q : Int).toNat = q := by omega
                  have s7 : q + 1 - q = 1 := by omega
                  go_wp2_with fail
                  go_region_held3 (fun w' => w'.cell? ⟨lg, k * 11, none⟩ = some (.int .i64 m.t)) (go_keep) ((go_at_call 12; (with_reducible refine (CS.out _ (by exact RQ.out.alike rfl rfl rfl rfl)).mono ?_); rintro e we ⟨y2, ns2, rfl, N2, ⟨hyt2, hyr2⟩, hyn2⟩; have HY2 := Lib.hid (show isT ns2 y2 ∧ tr ns2 y2 = subs (tr ns m.t) ((gl ps).take (q + 1)) ∧ ∃ l, ns2 = ns1 ++ l from ⟨hyt2, by rw [hyr2, HY.out.2.1, HGT.out.2, subs_snoc], by obtain ⟨l1, e1⟩ := HY.out.2.2; obtain ⟨l2, e2⟩ := N2.ext; exact ⟨l1 ++ l2, by rw [e2, e1, List.append_assoc]⟩⟩); have RQ := Lib.hid (LQ.next (by exact RQ.out.alike rfl rfl rfl rfl) N2 HC3.out.wf HY.out.2.1 HGT.out.1 hyn2); have f0 : we.cell? ⟨lg, k * 11, none⟩ = some (.int .i64 m.t) := HFC.out we ns2 RQ.out; clear N2 hyt2 hyr2 hyn2))
                  go_wp2_with fail
                  go_roundw
                  case rel => exact ⟨q + 1, y2, ns2, by omega, by go_num, rfl, rfl, RQ.out, HY2.out.1, HY2.out.2.1, HY2.out.2.2⟩
                  case measure => simp [intOf]; omega
                · obtain rfl : q = ids.length := by omega
                  have HGL := Lib.hid (show (gl ps).take ids.length = gl ps from List.take_of_length_le (by simp only [gl, List.length_map]; rw [HLZ.out]; exact Nat.le_refl _))
                  have HXQ : Hid (isT nsq X ∧ tr nsq X = (tr ns m.t).sub (gof ps)) := by
                    obtain ⟨h1, h2⟩ := ext_tr RQ.out.cur.wf HY.out.2.2 HX1.out.1
                    exact ⟨h1, h2.trans HX1.out.2⟩
                  have HV := Lib.hid (parts_worth (n1 := ns1) HC3.out.wf RQ.out.cur.wf HXQ.out.2 (by rw [HY.out.2.1, HGL.out]))
                  obtain ⟨vv, hvv⟩ : ∃ vv, V nsq (evy 64) X = vv := ⟨_, rfl⟩
                  have hvy : V nsq (evy 64) y = vv := by rw [← HV.out]; exact hvv
                  have HEN := Lib.hid (fun (W : World) (r : LQ w1 w4 W w1.heap.size ns Q (GG ps) nsq) => show EnvAt W (some ⟨w3.heap.size, 0, none⟩) (evy 64) from (HL4.out.same (r.q _ HEQ.out)).env)
                  have HEX := Lib.hid (fun (W : World) (r : LQ w1 w4 W w1.heap.size ns Q (GG ps) nsq) => show Calls Tryd.prog 10 #[ptr w1.heap.size, .int .i64 X, .slice (some ⟨w3.heap.size, 0, none⟩) 64 64] W (fun e w' => e = .returned (.int .u16 vv) ∧ Below W.heap.size W w') by
                    have := r_eval r.cur (some ⟨w3.heap.size, 0, none⟩) 64 (evy 64) X (HEN.out W r)
                    rw [evy_len, hvv] at this; exact this)
                  have HEY := Lib.hid (fun (W : World) (r : LQ w1 w4 W w1.heap.size ns Q (GG ps) nsq) => show Calls Tryd.prog 10 #[ptr w1.heap.size, .int .i64 y, .slice (some ⟨w3.heap.size, 0, none⟩) 64 64] W (fun e w' => e = .returned (.int .u16 vv) ∧ Below W.heap.size W w') by
                    have := r_eval r.cur (some ⟨w3.heap.size, 0, none⟩) 64 (evy 64) y (HEN.out W r)
                    rw [evy_len, hvy] at this; exact this)
                  have HSZ := Lib.hid (fun (W : World) (r : LQ w1 w4 W w1.heap.size ns Q (GG ps) nsq) => size_in w1 W w1.heap.size nsq Q X r.cur HXQ.out.1)
                  clear hvv hvy HV
                  go_wp2_with fail
                  (with_reducible refine (HEX.out _ RQ.out).mono ?_)
                  rintro e we ⟨rfl, hb⟩
                  have RQ := Lib.hid (RQ.out.below hb)
                  clear hb
                  go_wp2_with fail
                  (with_reducible refine (HEY.out _ RQ.out).mono ?_)
                  rintro e we ⟨rfl, hb⟩
                  have RQ := Lib.hid (RQ.out.below hb)
                  clear hb
                  go_wp2_with fail
                  (with_reducible refine (HSZ.out _ RQ.out).mono ?_)
                  rintro e we ⟨sz, rfl, hsz, hb⟩
                  have RQ := Lib.hid (RQ.out.below hb)
                  clear hb
                  go_wp2_with fail
                  go_roundw
                  case rel => exact ⟨k + 1, nsq, by omega, by go_num, RQ.out⟩
                  case measure => simp [intOf]; omega
            · obtain rfl : k = ms.length := by omega
              go_wp2
              go_ret
              exact ⟨rfl, HB1.out.trans (R.out.cur.below0.mono HB1.out.size)⟩

set_option maxRecDepth 100000 in
theorem lifted (os : Os) (started : os.Started) (H : Type) (enc : TypeId × Value → H) :
    ReturnsInHanded {} Tryd.checked os 5 .any (fun w args => (Rows.fixPartsSpec.pre enc Tryd.prog Tryd.f5 [] false w args ∧ laidMetH Tryd.prog laidTab w) ∧ sizedMet enc Tryd.prog Tryd.f5 (OpenSpec.ofChange Rows.fixPartsSpec) false w args)
      (Rows.fixPartsSpec.post enc Tryd.prog Tryd.f5 false true false false) := by
  refine returnsInHanded_of_change_and (C := Tryd.checked) (X := fun w _ => laidMetH Tryd.prog laidTab w) (fun _ _ _ hh h => h.of_heap hh) ownDoor started (by kernel_rfl) Tryd.func5
    (ChangeSpec.witness_shaped (enc := enc) (C := Tryd.checked) (os := os) (X := fun w _ => laidMetH Tryd.prog laidTab w) false (World.doorLaid Tryd.prog 400 os) #[.slice none 0 0, .slice none 0 0, .slice none 0 0] 8 rfl (World.shaped_of_RefB (by kernel_rfl) (by kernel_rfl)) (by kernel_rfl) (by kernel_rfl) (by kernel_rfl) (door_met os _)) ?_
  intro W base args ds gs before hval0 hW _ hsz hL _
  have hval : ∀ (j : Nat) t v, Tryd.f5.params[j]? = some t → args[j]? = some v → Value.okWide Tryd.prog W .any base t v := hval0
  have hW' := hW
  obtain ⟨p, q, hA0, hV, rfl, hfz, hnd⟩ := hW
  have hA : DataW.TrodAll enc Tryd.prog W 0 (fun _ => true) true Tryd.f5.params.toList args.toList ds p := hA0
  rw [Tryd.params5] at hA hval
  obtain ⟨v0, vs0, d0, ds0, p0, q0, hargs, rfl, rfl, h0, r0⟩ := trodAll_cons hA
  obtain ⟨v1, vs1, d1, ds1, p1, q1, rfl, rfl, rfl, h1, r1⟩ := trodAll_cons r0
  obtain ⟨v2, vs2, d2, ds2, p2, q2, rfl, rfl, rfl, h2, r2⟩ := trodAll_cons r1
  obtain ⟨rfl, rfl, rfl⟩ := trodAll_nil r2
  obtain rfl : args = #[v0, v1, v2] := by cases args; simp_all
  obtain ⟨rfl, rfl⟩ := trodVars_none hV
  have w0 : RowsIn W v0 := rows_open (hval 0 22 v0 rfl rfl) h0
  have w1 : NumsIn .u8 W v1 := nums_open Tryd.underlying50 Tryd.underlying5 cellsU8 (hval 1 50 v1 rfl rfl) h1
  have w2 : EnvIn W v2 := env_open Tryd.underlying23 Tryd.underlying24 cellsU16 (hval 2 23 v2 rfl rfl) h2
  obtain ⟨hT, hpos⟩ := of_laid hL
  clear hA0 hval0
  simp only [List.append_nil] at hW'
  have hlt := hW'.lt
  refine (walk v0 v1 v2 W w0 w1 w2 hT hpos).mono fun e W' ⟨he, hg⟩ => ?_
  subst he
  exact ⟨_, rfl, post_kept hW' hg (fun _ _ _ => (trodAll_cons_mk (shut_bool Tryd.underlying4 _) trodAll_mk0)) (fun sp hsp => (trodAll_cons_mk (WideElems.Trod_stays laidOut (by kernel_rfl) (of_decide_eq_true (by kernel_rfl)) h0 (fun x hx => hg.same (hlt x (by simp; first | exact .inl hx | exact .inr hx | exact hx | exact .inr (.inl hx) | exact .inr (.inr hx)))) (fun x hx => hsp x (by simp; first | exact .inl hx | exact .inr hx | exact hx | exact .inr (.inl hx) | exact .inr (.inr hx)))) (trodAll_cons_mk (WideElems.Trod_stays laidOut (by kernel_rfl) (of_decide_eq_true (by kernel_rfl)) h1 (fun x hx => hg.same (hlt x (by simp; first | exact .inl hx | exact .inr hx | exact hx | exact .inr (.inl hx) | exact .inr (.inr hx)))) (fun x hx => hsp x (by simp; first | exact .inl hx | exact .inr hx | exact hx | exact .inr (.inl hx) | exact .inr (.inr hx)))) (trodAll_cons_mk (WideElems.Trod_stays laidOut (by kernel_rfl) (of_decide_eq_true (by kernel_rfl)) h2 (fun x hx => hg.same (hlt x (by simp; first | exact .inl hx | exact .inr hx | exact hx | exact .inr (.inl hx) | exact .inr (.inr hx)))) (fun x hx => hsp x (by simp; first | exact .inl hx | exact .inr hx | exact hx | exact .inr (.inl hx) | exact .inr (.inr hx)))) trodAll_mk0)))) (fun _ _ => rfl) (by simp)
    (ok_one (by kernel_rfl) rfl (okWide_bool_mk Tryd.underlying4 _))⟩

theorem over : Rows.FixPartsSaid :=
  OpenClaim.holds_of_wide 5 Tryd.f5 rfl rfl rfl rfl rfl rfl rfl ⟨rfl, rfl, rfl, rfl, rfl⟩ rfl rfl rfl rfl rfl (by kernel_rfl) Tryd.func5 (by kernel_rfl)
    (of_decide_eq_true (by kernel_rfl)) (by unfold Func.isWrapper; first | (rw [if_pos (by decide +kernel)]; kernel_rfl) | (rw [if_neg (by decide +kernel)]; exact ⟨rfl, rfl⟩))
    (fun os started H enc _ => lifted os started H enc)

theorem proved : Rows.FixPartsCardSaid :=
  Claim7.holds_tied_plain_at .later [] [.data] true _ false
    over (fun _ h => by cases h) (by kernel_rfl) (fun _ h => by cases h) fixParts_row_tie rfl ⟨rfl, rfl⟩ (by kernel_rfl) rfl
    (fun f fn hf hfn => by
      obtain rfl : f = 5 := Option.some.inj ((show Tryd.prog.funcNamed "crossroads/crossroadslaw3.FixParts" = some 5 by kernel_rfl).symm.trans hf) |>.symm
      obtain rfl : fn = Tryd.f5 := (Option.some.inj (Tryd.func5.symm.trans hfn)).symm
      exact ⟨by kernel_rfl, fun j t ht => by
        rw [Tryd.params5] at ht
        have hm : t ∈ ([22, 50, 23] : List TypeId) := by simpa using Array.mem_of_getElem? ht
        have hall : (([22, 50, 23] : List TypeId).all fun u => !Tryd.prog.wantsStandIn u) = true := by kernel_rfl
        exact (show Tryd.prog.wantsStandIn t = false by simpa using List.all_eq_true.1 hall t hm)⟩)
    (by kernel_rfl)
#print axioms proved
end Go.Proofs.YtgbmiphaabeodaaDoor.fixParts
