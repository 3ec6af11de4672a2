/-
  Some of package fix.
-/
import Derived.Test.YtgbmiphaabeodaaDoorFixS
import Derived.Test.YtgbmiphaabeodaaDoorFixP2
namespace Go.Proofs.YtgbmiphaabeodaaDoor
open Go.ChangeShapes Go.WideShapes Go.ChangeAt Go.RowKit
set_option linter.unusedVariables false
attribute [local go_sem ↓] Go.wp_at_zero Go.wp_at_succ

/-- What is new is what a part of x becomes. -/
def NewP (ns ns' : List Nd) (x : Int) (g : Nat → Option Int) : Prop := ∀ i : Nat, ns.length ≤ i → i < ns'.length → ∃ z : Int, 1 ≤ z ∧ z ≤ x ∧ Reach ns x z ∧ tr ns' ((i : Int) + 1) = (tr ns z).sub g
def SomeG (k : Nat) (W0 w : World) (ab : Nat) (ns : List Nd) (Q : Nat → Prop) (x : Int) (g : Nat → Option Int) (e : Ending) (w' : World) : Prop :=
  ∃ (y : Int) (ns' : List Nd), e = .returned (.tuple #[.int .i64 y, .int .i64 0]) ∧ NxtK k W0 w ab ns Q w' ns' ∧ SomeP ns x g ns' y ∧ NewP ns ns' x g
theorem NewP.none (ns : List Nd) (x : Int) (g : Nat → Option Int) : NewP ns ns x g := fun i h1 h2 => by omega
theorem NewP.one {ns ns' : List Nd} {x y : Int} {g : Nat → Option Int} (hx : isT ns x) (h : One ns ns' y) (e : tr ns' y = (tr ns x).sub g) : NewP ns ns' x g := fun i h1 h2 => by
  rcases h with h | ⟨⟨m, h⟩, hy⟩
  · rw [h] at h2; omega
  · rw [h, List.length_append] at h2
    simp at h2
    refine ⟨x, hx.1, Int.le_refl _, .refl, ?_⟩
    rw [show ((i : Int) + 1) = y by omega]
    exact e
set_option maxHeartbeats 1600000 in
set_option maxRecDepth 100000 in
theorem some_any (W0 w : World) (ab K : Nat) (ns : List Nd) (Q : Nat → Prop) (x : Int) (A B : Option Addr) (ids vals : List Int) (icap vcap : Nat) (C : Cur W0 w ab ns Q) (hx : isT ns x) (hT : Tab w) (hpos : 0 < w.heap.size) (hfull : ns.length < 65536)
    (hI : NumsAt .i64 w A ids) (hV : EnvAt w B vals) (hl : ids.length = vals.length) (hn : ids.length ≤ 9223372036854775807)
    (hK : ∀ ls, Wl ns x ls → ls.length ≤ K) (hK1 : 1 ≤ K) (hroom : ns.length + K ≤ 65536) :
    Calls Tryd.prog 12 #[ptr ab, .int .i64 x, .slice A ids.length icap, .slice B vals.length vcap] w (SomeG K W0 w ab ns Q x (gof (ids.zip vals))) := by
  have HC := Lib.hid C
  have HX := Lib.hid hx
  have HT := Lib.hid hT
  have HL := Lib.hid hl
  have HI := Lib.hid hI
  have HV := Lib.hid hV
  have HGO := Lib.hid (gof_ok (l := ids.zip vals) (fun p hp => hV.rng p.2 (List.of_mem_zip hp).2))
  have HW := Lib.hid (r_width C x)
  have hm := wdt_may C.wf hx
  have hw0 : (wdt ns x == 0) = false := by rcases hm with e | e | e <;> rw [e] <;> rfl
  have HM := Lib.hid hm
  have HWD : Hid ((tr ns x).w = wdt ns x) := tr_w C.wf x
  have HGA := Lib.hid (fun (W : World) (b : Below w.heap.size w W) => show Calls Tryd.prog 29 #[.slice A ids.length icap, .slice B ids.length vcap] W (GPost W (gof (ids.zip vals))) by
    have := gather_any W A B ids vals icap vcap (hI.keep b) (hV.from_ b) hl hn
    rwa [← hl] at this)
  rw [← hl]
  have HK := Lib.hid hK
  have HRO := Lib.hid hroom
  have HFU := Lib.hid hfull
  clear C hx hT hl hI hV hm hK hroom
  go_enter Tryd.func12, Tryd.ntmps12
  go_wp2_with fail
  refine HW.out.mono ?_
  rintro e w1 ⟨rfl, hb⟩
  have HB1 := Lib.hid hb
  clear hb
  go_wp2_with fail
  refine (HGA.out w1 HB1.out).mono ?_
  rintro e w2 ⟨gb, rfl, hgb, hge, hb⟩
  have HB2 := Lib.hid (HB1.out.trans (hb.mono HB1.out.size))
  clear hb
  generalize gof (ids.zip vals) = g at *
  have HVS := Lib.hid (r_vars (HC.out.below HB2.out) x HX.out (HT.out.below HB2.out hpos))
  go_wp2_with fail
  refine HVS.out.mono ?_
  rintro e w3 ⟨VA, vcap2, rfl, hown, hb⟩
  have HB3 := Lib.hid (HB2.out.trans (hb.mono HB2.out.size))
  have HOWN := Lib.hid hown
  have HGB3 := Lib.hid (hgb.same (hb.block _ hgb.lt))
  have hn64 := bl_length (Iv ns x)
  have HMY := Lib.hid (many_any w3 gb g VA (bl (Iv ns x)) vcap2 _ HGB3.out hown mem_ints hn64)
  clear hb hown HVS hgb
  go_wp2_with fail
  refine HMY.out.mono ?_
  rintro e w' ⟨rfl, rfl⟩
  have hle := gmany_le g (bl (Iv ns x))
  have HWF : Hid (WF ns) := HC.out.wf
  have HIV : Hid (∀ i : Nat, i < 64 → (tr ns x).iv.testBit i = true → i ∈ bl (Iv ns x)) := fun i hi hb => mem_bl.2 ⟨hi, by rw [← tr_iv HC.out.wf]; exact hb⟩
  by_cases h0 : gmany g (bl (Iv ns x)) = 0
  · have HN := Lib.hid (gmany_zero.1 h0)
    generalize gmany g (bl (Iv ns x)) = n at *
    subst h0
    go_wp2_with fail
    go_ret2
    obtain ⟨foot, a, b, c, d⟩ := HC.out
    exact ⟨x, ns, rfl, (NxtK.of_many b c d (((MStep.refl a).ahead HB3.out).more (Nat.zero_le _))), ⟨HX.out, (Tr.sub_same g (tr_wf HWF.out x) (tr_nrm HWF.out a.nrm x) fun i hi hb => HN.out i (HIV.out i hi hb)).symm⟩, NewP.none _ _ _⟩
  by_cases hA : gmany g (bl (Iv ns x)) = (bl (Iv ns x)).length
  · have HA := Lib.hid hA
    have h0' : ((gmany g (bl (Iv ns x)) : Int) == 0) = false := by simp; omega
    have hq : ((gmany g (bl (Iv ns x)) : Int) == ((bl (Iv ns x)).length : Int)) = true := by rw [HA.out]; simp
    have hq2 : (gmany g (bl (Iv ns x)) == (bl (Iv ns x)).length) = true := by rw [HA.out]; simp
    have HALL := Lib.hid (gmany_all.1 HA.out)
    generalize gmany g (bl (Iv ns x)) = n at *
    clear h0 hA
    have HF0 := Lib.hid (fun (W : World) (b : Below w3.heap.size w3 W) => show W.cell? ⟨gb, 0, none⟩ = some (.bool (g 0).isSome) from ga_is (HGB3.out.same (b.block _ HGB3.out.lt)) (by decide))
    have BX : Hid (Below w3.heap.size w3 w3) := Below.refl _ _
    have f0 : w3.cell? ⟨gb, 0, none⟩ = some (.bool (g 0).isSome) := HF0.out w3 BX.out
    have HWd := Lib.hid (fun (W : World) (b : Below w3.heap.size w3 W) => r_width ((HC.out.below HB3.out).below b) x)
    have hv := V_val HWF.out (genv g) HX.out
    have HEv := Lib.hid (fun (W : World) (b : Below w3.heap.size w3 W) => show Calls Tryd.prog 10 #[ptr ab, .int .i64 x, .slice (some ⟨gb, 64, none⟩) 64 64] W (fun e w' => e = .returned (.int .u16 (V ns (genv g) x)) ∧ Below W.heap.size W w') by
      have := r_eval ((HC.out.below HB3.out).below b) (some ⟨gb, 64, none⟩) 64 (genv g) x (genv_at (HGB3.out.same (b.block _ HGB3.out.lt)) HGO.out)
      rwa [genv_len] at this)
    have HSUB : Hid ((tr ns x).sub g = Tr.mkC (wdt ns x) (low (wdt ns x) (V ns (genv g) x))) := by
      have hwf := tr_wf HWF.out x
      have so := Tr.sub_ok g hwf
      have hk := Tr.sub_const g hwf (fun i hi hb => HALL.out i (HIV.out i hi hb))
      have he := so.ev [] (genv g) (genv_agree g)
      rw [tr_ev HWF.out] at he
      have cf := Tr.const_form so.wf hk (so.ne (tr_some HWF.out HX.out))
      rw [so.w, HWD.out, he] at cf
      rw [show low (wdt ns x) (V ns (genv g) x) = V ns (genv g) x from Int.emod_eq_of_lt hv.1 hv.2.1]
      exact cf
    obtain ⟨foot, a, b, c, d⟩ := HC.out
    have HQ := Lib.hid (And.intro b (And.intro c d))
    have HAR := Lib.hid a
    have hgf : ¬ foot gb := fun hf => by have := a.lt _ hf; have := HB1.out.size; omega
    have HCo := Lib.hid (fun (W : World) (b : Below w3.heap.size w3 W) => u_const W ab ns foot (wdt ns x) (V ns (genv g) x) ((a.below HB3.out).below b) hfull HM.out hv.1 hv.2.2)
    clear a b c d hv hfull
    generalize V ns (genv g) x = v at HEv HCo HSUB
    generalize wdt ns x = wd at *
    go_wp2_with fail
    go_region_held3 (fun w' => w'.cell? ⟨gb, 0, none⟩ = some (.bool (g 0).isSome)) (go_keep) (first
      | (go_at_call 14; refine (HWd.out _ (by exact below_alike3 BX.out rfl rfl rfl rfl)).mono ?_; rintro e we ⟨rfl, hb⟩; have BX := Lib.hid (below_step BX.out hb rfl rfl rfl rfl); have f0 : we.cell? ⟨gb, 0, none⟩ = some (.bool (g 0).isSome) := HF0.out we BX.out; clear hb)
      | (go_at_call 10; refine (HEv.out _ (by exact below_alike3 BX.out rfl rfl rfl rfl)).mono ?_; rintro e we ⟨rfl, hb⟩; have BX := Lib.hid (below_step BX.out hb rfl rfl rfl rfl); have f0 : we.cell? ⟨gb, 0, none⟩ = some (.bool (g 0).isSome) := HF0.out we BX.out; clear hb)
      | (go_at_call 17; refine (HCo.out _ (by exact below_alike3 BX.out rfl rfl rfl rfl)).mono ?_; rintro e we ⟨y, rfl, ns', foot', st, tp, nv⟩; have f0 : we.cell? ⟨gb, 0, none⟩ = some (.bool (g 0).isSome) := (World.cell?_of_block (st.kept.block gb (Nat.lt_of_lt_of_le HGB3.out.lt BX.out.size) hgf)).trans f0; have HST := Lib.hid (MStep.behind (by exact HB3.out.trans ((below_alike3 BX.out rfl rfl rfl rfl).mono HB3.out.size)) st.many); have HTP := Lib.hid tp; clear st tp nv))
    go_wp2_with fail
    go_ret2
    exact ⟨y, ns', rfl, NxtK.of_many HQ.out.1 HQ.out.2.1 HQ.out.2.2 (HST.out.more hK1), ⟨HTP.out.t, by rw [HTP.out.tr, HSUB.out]⟩, NewP.one HX.out HTP.out.o (by rw [HTP.out.tr, HSUB.out])⟩
  · have h0' : ((gmany g (bl (Iv ns x)) : Int) == 0) = false := by simp; omega
    have hq : ((gmany g (bl (Iv ns x)) : Int) == ((bl (Iv ns x)).length : Int)) = false := by simp; omega
    have hq2 : (gmany g (bl (Iv ns x)) == (bl (Iv ns x)).length) = false := by simp; omega
    generalize gmany g (bl (Iv ns x)) = n at *
    clear h0 hA
    obtain ⟨foot, a, b, c, d⟩ := HC.out
    have HQ := Lib.hid (And.intro b (And.intro c d))
    have HPA := Lib.hid (partly_any w3 ab gb K ns foot x g (a.below HB3.out) HX.out HFU.out HK.out HRO.out HGB3.out HGO.out)
    clear a b c d
    go_wp2_with fail
    refine HPA.out.mono ?_
    rintro e w4 ⟨y, rfl, ns', foot', hp⟩
    have HP := Lib.hid hp
    clear hp HPA
    go_wp2_with fail
    go_ret2
    exact ⟨y, ns', rfl, NxtK.of_many HQ.out.1 HQ.out.2.1 HQ.out.2.2 (HP.out.st.behind HB3.out), ⟨HP.out.t, HP.out.e⟩, HP.out.new⟩
end Go.Proofs.YtgbmiphaabeodaaDoor
