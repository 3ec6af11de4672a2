/-
  The law TermValues: whatever terms are made, what is refused, the width and the value under each assignment are as they should be. No condition.
-/
import Derived.Test.YtchbdnifcckloaaDoorTermBuildAll
import Derived.Test.YtchbdnifcckloaaDoorTermZ
import Derived.Test.YtchbdnifcckloaaDoorTermO
import Derived.Test.YtchbdnifcckloaaDoorCards
import Derived.SevenTiedAt
namespace Go.Proofs.YtchbdnifcckloaaDoor.termValues
open Go.ChangeShapes Go.WideShapes Go.ChangeAt Go.RowKit
set_option linter.unusedVariables false


set_option maxHeartbeats 3200000 in
set_option maxRecDepth 100000 in
theorem walk (v0 : Value) (v1 : Value) (w : World) (w0 : RowsIn w v0) (w1 : EnvIn w v1) (hT : Tab w) (hpos : 0 < w.heap.size) :
    Calls Tryd.prog 3 #[v0, v1] w fun e w' => e = .returned (.bool true) ∧ Below w.heap.size w w' := by
  obtain ⟨A, rs, cap, rfl, hc1, hc2, hRb, hR⟩ := w0
  obtain ⟨EA, env, ecap, rfl, he1, he2, hE⟩ := w1
  have HR := Lib.hid hR
  have HRB := Lib.hid hRb
  have HE0 := Lib.hid hE
  clear hR hE hRb
  by_cases hb1 : 200 < rs.length
  · go_enter Tryd.func3, Tryd.ntmps3
    go_wp2_with fail
    refine (awake_any _ hT hpos).mono ?_
    rintro e w1 ⟨rfl, hb⟩
    go_wp2_with fail
    go_ret
    exact ⟨rfl, hb⟩
  by_cases hb2 : 100 < env.length
  · go_enter Tryd.func3, Tryd.ntmps3
    go_wp2_with fail
    refine (awake_any _ hT hpos).mono ?_
    rintro e w1 ⟨rfl, hb⟩
    go_wp2_with fail
    go_ret
    exact ⟨rfl, hb⟩
  have hb1' : rs.length ≤ 200 := by omega
  have hb2' : env.length ≤ 100 := by omega
  clear hb1 hb2
  go_enter Tryd.func3, Tryd.ntmps3
  go_wp2_with fail
  refine (awake_any _ hT hpos).mono ?_
  rintro e w1 ⟨rfl, hb⟩
  have HB1 := Lib.hid hb
  have HR1 := Lib.hid (HR.out.from_ HRB.out hb)
  clear hb
  go_wp2_with fail
  refine (new_any _).mono ?_
  rintro e w2 ⟨rfl, ha, hb⟩
  have HC := Lib.hid (Cur.of_new ha hb)
  clear ha hb
  go_wp2_with fail
  refine (build_any w1 w2 _ cap A rs HC.out HR1.out hb1' hc1 hc2).mono ?_
  rintro e w3 ⟨ns, ms, LA, lcap, rfl, C3, row3, mok, ml, nl⟩
  have HC3 := Lib.hid C3
  have HROW := Lib.hid row3
  have HMOK := Lib.hid mok
  have hml : ms.length ≤ 200 := by omega
  have HB3 : Hid (Below w.heap.size w w3) := HB1.out.trans (C3.below0.mono HB1.out.size)
  clear C3 row3 mok nl ml
  go_wp2_with fail
  refine (values_law w3 _ lcap ecap LA EA ns ms env HROW.out HMOK.out HC3.out.wf (HE0.out.from_ HB3.out) hml).mono ?_
  rintro e w4 ⟨VA, vcap, rfl, own4, hb4⟩
  have HB4 := Lib.hid hb4
  have hvc : ms.length ≤ vcap ∧ vcap ≤ 9223372036854775807 ∨ ms.length = 0 := by
    rcases own4.2 with ⟨_, h0⟩ | ⟨g, c, cur, e, _, _, h1, h2, _⟩
    · exact .inr (by rw [vl_len] at h0; exact h0)
    · injection e with _ _ e; subst e; unfold maxLen at h2; exact .inl ⟨by rw [vl_len] at h1; exact h1, by omega⟩
  have HV4 := Lib.hid (env_row own4 (vl_rng HC3.out.wf ms env) (by rw [vl_len]; omega))
  have HVL := Lib.hid (vl_len ns ms env)
  have hvl : (vl ns ms env).length ≤ ms.length ∧ ms.length ≤ (vl ns ms env).length := by rw [vl_len]; exact ⟨Nat.le_refl _, Nat.le_refl _⟩
  have HVA := Lib.hid (fun (k : Nat) (m : Md) (h : ms[k]? = some m) => show (vl ns ms env).getD k 0 = V ns env m.t by rw [List.getD_eq_getElem?_getD, vl_at env h]; rfl)
  clear own4 hb4
  generalize vl ns ms env = xs at *
  go_wp2_with fail
  go_loopw [9] (fun i wr => ∃ k : Nat, k ≤ ms.length ∧ i = .int .i64 k ∧ Below w4.heap.size w4 wr) (fun i _ => ms.length - (intOf i).toNat)
  case atStart => exact ⟨0, by omega, rfl, Below.refl _ _⟩
  case round =>
    obtain ⟨k, hk, rfl, hrel⟩ := hrel
    have B := Lib.hid hrel
    clear hrel
    by_cases hlt : k < ms.length
    · obtain ⟨m, hm⟩ : ∃ m, ms[k]? = some m := ⟨_, List.getElem?_eq_getElem hlt⟩
      have K := Lib.hid (HMOK.out k m hm)
      have HX := Lib.hid (HVA.out k m hm)
      have hx := hvl
      obtain ⟨lg, lc, hLA, hlg, hlb, hlc1, hlc2, hc0⟩ := row_md (row_from HROW.out HB4.out) hm
      injection hLA with h1 h2 h3
      subst h1; subst h3
      obtain ⟨ad, rfl, had, hcv, x0, x1⟩ := HV4.out.at (show k < xs.length by omega)
      unfold maxLen at hlc2
      have hkx : k < xs.length := by omega
      rw [HX.out] at hcv x0 x1
      have FC0 := fun (W : World) (b : Below w4.heap.size w4 W) => (b.cell (p := ⟨lg, k * 11, none⟩) hlg).trans (hc0 0 (by decide) : w4.cell? ⟨lg, k * 11, none⟩ = some (.int .i64 m.t))
      have FC1 := fun (W : World) (b : Below w4.heap.size w4 W) => (b.cell (p := ad.add k) (by rw [add_block]; exact had)).trans hcv
      have hadw : ad.block < wr.heap.size := Nat.lt_of_lt_of_le had B.out.size
      have HED := fun (W : World) (b : Below w4.heap.size w4 W) => Lib.hid (r_eval ((HC3.out.below HB4.out).below b) EA ecap env m.t (((HE0.out.from_ HB3.out).from_ HB4.out).from_ b))
      clear hm hc0 hcv h2 HX
      by_cases hc : isC ns m.t
      · obtain ⟨n, hn, h1⟩ := hc
        have HKN := fun (W : World) (b : Below w4.heap.size w4 W) => Lib.hid (r_known ((HC3.out.below HB4.out).below b) m.t n hn h1)
        have e1 := V_const HC3.out.wf env hn h1
        rw [e1] at HED FC1 x0 x1
        have HEQ := Lib.hid e1
        generalize n.val = x at *
        clear hn h1 e1
        have f0 : wr.cell? ⟨lg, k * 11, none⟩ = some (.int .i64 m.t) := FC0 wr B.out
        have f1 : wr.cell? (ad.add k) = some (.int .u16 x) := FC1 wr B.out
        have FCC0 := Lib.hid FC0
        have FCC1 := Lib.hid FC1
        have hlw : lg < wr.heap.size := Nat.lt_of_lt_of_le hlg B.out.size
        clear FC0 FC1
        go_wp2_with fail
        go_region_held3 (fun w' => w'.cell? ⟨lg, k * 11, none⟩ = some (.int .i64 m.t) ∧ w'.cell? (ad.add k) = some (.int .u16 x)) (go_keep) ((go_at_call 14; refine (HED _ (by exact below_alike3 B.out rfl rfl rfl rfl)).out.mono ?_; rintro e we ⟨rfl, hb⟩; have B := Lib.hid (show Below w4.heap.size w4 we from below_step B.out hb rfl rfl rfl rfl); have f0 : we.cell? ⟨lg, k * 11, none⟩ = some (.int .i64 m.t) := FCC0.out we B.out; have f1 : we.cell? (ad.add k) = some (.int .u16 x) := FCC1.out we B.out; clear hb))
        go_wp2_with fail
        refine (HKN _ B.out).out.mono ?_
        rintro e we ⟨rfl, hb⟩
        have B := Lib.hid (below_step B.out hb rfl rfl rfl rfl)
        have f1 : we.cell? (ad.add k) = some (.int .u16 x) := FCC1.out we B.out
        clear hb
        go_wp2_with fail
        go_roundw
        case rel => exact ⟨k + 1, by omega, by go_num, below_alike3 B.out rfl rfl rfl rfl⟩
        case measure => simp [intOf]; omega
      · have HKN := fun (W : World) (b : Below w4.heap.size w4 W) => Lib.hid (r_known_no ((HC3.out.below HB4.out).below b) m.t hc)
        generalize V ns env m.t = x at *
        clear hc
        have f0 : wr.cell? ⟨lg, k * 11, none⟩ = some (.int .i64 m.t) := FC0 wr B.out
        have f1 : wr.cell? (ad.add k) = some (.int .u16 x) := FC1 wr B.out
        have FCC0 := Lib.hid FC0
        have FCC1 := Lib.hid FC1
        have hlw : lg < wr.heap.size := Nat.lt_of_lt_of_le hlg B.out.size
        clear FC0 FC1
        go_wp2_with fail
        go_region_held3 (fun w' => w'.cell? ⟨lg, k * 11, none⟩ = some (.int .i64 m.t) ∧ w'.cell? (ad.add k) = some (.int .u16 x)) (go_keep) ((go_at_call 14; refine (HED _ (by exact below_alike3 B.out rfl rfl rfl rfl)).out.mono ?_; rintro e we ⟨rfl, hb⟩; have B := Lib.hid (show Below w4.heap.size w4 we from below_step B.out hb rfl rfl rfl rfl); have f0 : we.cell? ⟨lg, k * 11, none⟩ = some (.int .i64 m.t) := FCC0.out we B.out; have f1 : we.cell? (ad.add k) = some (.int .u16 x) := FCC1.out we B.out; clear hb))
        go_wp2_with fail
        refine (HKN _ B.out).out.mono ?_
        rintro e we ⟨rfl, hb⟩
        have B := Lib.hid (below_step B.out hb rfl rfl rfl rfl)
        have f1 : we.cell? (ad.add k) = some (.int .u16 x) := FCC1.out we B.out
        clear hb
        go_wp2_with fail
        go_roundw
        case rel => exact ⟨k + 1, by omega, by go_num, below_alike3 B.out rfl rfl rfl rfl⟩
        case measure => simp [intOf]; omega
    · obtain rfl : k = ms.length := by omega
      go_wp2
      go_ret
      exact ⟨rfl, (HB3.out.trans (HB4.out.mono HB3.out.size)).trans (B.out.mono (Nat.le_trans HB3.out.size HB4.out.size))⟩

set_option maxRecDepth 100000 in
theorem lifted (os : Os) (started : os.Started) (H : Type) (enc : TypeId × Value → H) :
    ReturnsInHanded {} Tryd.checked os 3 .any (fun w args => (Rows.termValuesSpec.pre enc Tryd.prog Tryd.f3 [] false w args ∧ laidMetH Tryd.prog laidTab w) ∧ sizedMet enc Tryd.prog Tryd.f3 (OpenSpec.ofChange Rows.termValuesSpec) false w args)
      (Rows.termValuesSpec.post enc Tryd.prog Tryd.f3 false true false false) := by
  refine returnsInHanded_of_change_and (C := Tryd.checked) (X := fun w _ => laidMetH Tryd.prog laidTab w) (fun _ _ _ hh h => h.of_heap hh) ownDoor started (by kernel_rfl) Tryd.func3
    (ChangeSpec.witness_shaped (enc := enc) (C := Tryd.checked) (os := os) (X := fun w _ => laidMetH Tryd.prog laidTab w) false (World.doorLaid Tryd.prog 400 os) #[.slice none 0 0, .slice none 0 0] 8 rfl (World.shaped_of_RefB (by kernel_rfl) (by kernel_rfl)) (by kernel_rfl) (by kernel_rfl) (by kernel_rfl) (door_met os _)) ?_
  intro W base args ds gs before hval0 hW _ hsz hL _
  have hval : ∀ (j : Nat) t v, Tryd.f3.params[j]? = some t → args[j]? = some v → Value.okWide Tryd.prog W .any base t v := hval0
  have hW' := hW
  obtain ⟨p, q, hA0, hV, rfl, hfz, hnd⟩ := hW
  have hA : DataW.TrodAll enc Tryd.prog W 0 (fun _ => true) true Tryd.f3.params.toList args.toList ds p := hA0
  rw [Tryd.params3] at hA hval
  obtain ⟨v0, vs0, d0, ds0, p0, q0, hargs, rfl, rfl, h0, r0⟩ := trodAll_cons hA
  obtain ⟨v1, vs1, d1, ds1, p1, q1, rfl, rfl, rfl, h1, r1⟩ := trodAll_cons r0
  obtain ⟨rfl, rfl, rfl⟩ := trodAll_nil r1
  obtain rfl : args = #[v0, v1] := by cases args; simp_all
  obtain ⟨rfl, rfl⟩ := trodVars_none hV
  have w0 : RowsIn W v0 := rows_open (hval 0 22 v0 rfl rfl) h0
  have w1 : EnvIn W v1 := env_open Tryd.underlying23 Tryd.underlying31 cellsU16 (hval 1 23 v1 rfl rfl) h1
  obtain ⟨hT, hpos⟩ := of_laid hL
  clear hA0 hval0
  simp only [List.append_nil] at hW'
  have hlt := hW'.lt
  refine (walk v0 v1 W w0 w1 hT hpos).mono fun e W' ⟨he, hg⟩ => ?_
  subst he
  exact ⟨_, rfl, post_kept hW' hg (fun _ _ _ => (trodAll_cons_mk (shut_bool Tryd.underlying4 _) trodAll_mk0)) (fun sp hsp => (trodAll_cons_mk (WideElems.Trod_stays laidOut (by kernel_rfl) (of_decide_eq_true (by kernel_rfl)) h0 (fun x hx => hg.same (hlt x (by simp; first | exact .inl hx | exact .inr hx | exact hx | exact .inr (.inl hx)))) (fun x hx => hsp x (by simp; first | exact .inl hx | exact .inr hx | exact hx | exact .inr (.inl hx)))) (trodAll_cons_mk (WideElems.Trod_stays laidOut (by kernel_rfl) (of_decide_eq_true (by kernel_rfl)) h1 (fun x hx => hg.same (hlt x (by simp; first | exact .inl hx | exact .inr hx | exact hx | exact .inr (.inl hx)))) (fun x hx => hsp x (by simp; first | exact .inl hx | exact .inr hx | exact hx | exact .inr (.inl hx)))) trodAll_mk0))) (fun _ _ => rfl) (by simp)
    (ok_one (by kernel_rfl) rfl (okWide_bool_mk Tryd.underlying4 _))⟩

theorem over : Rows.TermValuesSaid :=
  OpenClaim.holds_of_wide 3 Tryd.f3 rfl rfl rfl rfl rfl rfl rfl ⟨rfl, rfl, rfl, rfl, rfl⟩ rfl rfl rfl rfl rfl (by kernel_rfl) Tryd.func3 (by kernel_rfl)
    (of_decide_eq_true (by kernel_rfl)) (by unfold Func.isWrapper; first | (rw [if_pos (by decide +kernel)]; kernel_rfl) | (rw [if_neg (by decide +kernel)]; exact ⟨rfl, rfl⟩))
    (fun os started H enc _ => lifted os started H enc)

theorem proved : Rows.TermValuesCardSaid :=
  Claim7.holds_tied_plain_at .later [] [.data] true _ false
    over (fun _ h => by cases h) (by kernel_rfl) (fun _ h => by cases h) termValues_row_tie rfl ⟨rfl, rfl⟩ (by kernel_rfl) rfl
    (fun f fn hf hfn => by
      obtain rfl : f = 3 := Option.some.inj ((show Tryd.prog.funcNamed "crossroads/crossroadslaw2.TermValues" = some 3 by kernel_rfl).symm.trans hf) |>.symm
      obtain rfl : fn = Tryd.f3 := (Option.some.inj (Tryd.func3.symm.trans hfn)).symm
      exact ⟨by kernel_rfl, fun j t ht => by
        rw [Tryd.params3] at ht
        have hm : t ∈ ([22, 23] : List TypeId) := by simpa using Array.mem_of_getElem? ht
        have hall : (([22, 23] : List TypeId).all fun u => !Tryd.prog.wantsStandIn u) = true := by kernel_rfl
        exact (show Tryd.prog.wantsStandIn t = false by simpa using List.all_eq_true.1 hall t hm)⟩)
    (by kernel_rfl)
#print axioms proved
end Go.Proofs.YtchbdnifcckloaaDoor.termValues
