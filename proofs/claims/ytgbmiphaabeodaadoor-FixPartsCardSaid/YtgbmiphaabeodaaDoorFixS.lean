/-
  Some of package fix, where none of a term's variables have a number, or all of them.
-/
import Derived.Test.YtgbmiphaabeodaaDoorFixG
import Derived.Test.YtgbmiphaabeodaaDoorTermU
import Derived.Test.YtgbmiphaabeodaaDoorTermK
namespace Go.Proofs.YtgbmiphaabeodaaDoor
open Go.ChangeShapes Go.WideShapes Go.ChangeAt Go.RowKit
set_option linter.unusedVariables false
attribute [local go_sem ↓] Go.wp_at_zero Go.wp_at_succ

/-- The arena with more terms, at most k. -/
structure NxtK (k : Nat) (W0 w : World) (ab : Nat) (ns : List Nd) (Q : Nat → Prop) (w' : World) (ns' : List Nd) : Prop where
  cur : Cur W0 w' ab ns' Q
  ext : ∃ l, ns' = ns ++ l
  len : ns'.length ≤ ns.length + k
  q : ∀ k, Q k → w'.heap[k]? = w.heap[k]?
  sz : w.heap.size ≤ w'.heap.size
theorem NxtK.of_many {k : Nat} {W0 w w' : World} {ab : Nat} {ns ns' : List Nd} {Q foot foot' : Nat → Prop} (b : Below W0.heap.size W0 w) (c : ∀ k, foot k → W0.heap.size ≤ k ∧ ¬ Q k) (d : ∀ k, Q k → k < w.heap.size) (s : MStep k w ab ns foot w' ns' foot') : NxtK k W0 w ab ns Q w' ns' := by
  refine ⟨⟨foot', s.ar, b.trans (s.kept.below b.size (fun k hk hf => by have := (c k hf).1; omega)), fun k hk => ?_, fun k hk => Nat.lt_of_lt_of_le (d k hk) s.kept.size⟩, s.ext, s.len, fun k hk => s.kept.block k (d k hk) (fun hf => (c k hf).2 hk), s.kept.size⟩
  rcases s.foot_ k hk with hf | hf
  · exact c k hf
  · have := b.size
    exact ⟨by omega, fun q => by have := d k q; omega⟩
theorem Tr.const_form {t : Tr} (h : t.wf) (hk : t.kid = true) (h0 : t ≠ .o) : t = Tr.mkC t.w (t.ev []) := by
  cases t with
  | o => exact absurd rfl h0
  | n op w val a b c =>
    have e : op = 1 := by simpa [Tr.kid] using hk
    subst e
    obtain ⟨_, rfl, rfl, rfl⟩ := h.1.one rfl
    show _ = Tr.n 1 w ((Tr.n 1 w val .o .o .o).ev []) .o .o .o
    rw [Tr.ev, if_pos rfl]
/-- The numbers as an assignment. -/
def genv (g : Nat → Option Int) : List Int := (List.range 64).map fun i => (g i).getD 0
theorem genv_len (g : Nat → Option Int) : (genv g).length = 64 := by simp [genv]
theorem genv_agree (g : Nat → Option Int) : Tr.Agree g [] (genv g) := fun i hi => by
  have : (genv g).getD i 0 = (g i).getD 0 := by simp [genv, List.getD_eq_getElem?_getD, hi]
  rw [this]; cases g i <;> simp
theorem genv_at {w : World} {gb : Nat} {g : Nat → Option Int} (h : Has w gb 81 (ga g)) (hg : GOk g) : EnvAt w (some ⟨gb, 64, none⟩) (genv g) := by
  refine ⟨fun i v hv => ⟨_, rfl, ?_⟩, (fun a ha => by injection ha with ha; subst ha; exact h.lt), fun v hv => ?_, by rw [genv_len]; decide⟩
  · have hi : i < 64 := by have := (List.getElem?_eq_some_iff.1 hv).1; rw [genv_len] at this; exact this
    have e : (⟨gb, 64, none⟩ : Addr).add i = ⟨gb, 64 + i, none⟩ := by unfold Addr.add; split; simp_all; rfl
    have : v = (g i).getD 0 := by simp [genv, hi] at hv; exact hv.symm
    rw [e, ga_val h hi, this]
  · obtain ⟨i, _, rfl⟩ := List.mem_map.1 hv
    cases hgi : g i with
    | none => simp
    | some u => exact (hg i u hgi).2
theorem gof_ok {l : List (Int × Int)} (h : ∀ p ∈ l, 0 ≤ p.2 ∧ p.2 ≤ 65535) : GOk (gof l) := by
  unfold gof
  have key : ∀ (l : List (Int × Int)) (g : Nat → Option Int), GOk g → (∀ p ∈ l, 0 ≤ p.2 ∧ p.2 ≤ 65535) → GOk (l.foldl (fun g p => gput g p.1 p.2) g) := by
    intro l
    induction l with
    | nil => intro g hg _; exact hg
    | cons p l ih => intro g hg hl; exact ih _ (hg.put p.1 (hl p (List.mem_cons_self ..)).1 (hl p (List.mem_cons_self ..)).2) fun q hq => hl q (List.mem_cons_of_mem _ hq)
  exact key l _ (fun i v hv => by cases hv) h
/-- What Some answers. -/
def SomeP (ns : List Nd) (x : Int) (g : Nat → Option Int) (ns' : List Nd) (y : Int) : Prop := isT ns' y ∧ tr ns' y = (tr ns x).sub g
def SomeE (k : Nat) (W0 w : World) (ab : Nat) (ns : List Nd) (Q : Nat → Prop) (x : Int) (g : Nat → Option Int) (e : Ending) (w' : World) : Prop :=
  ∃ (y : Int) (ns' : List Nd), e = .returned (.tuple #[.int .i64 y, .int .i64 0]) ∧ NxtK k W0 w ab ns Q w' ns' ∧ SomeP ns x g ns' y
theorem mem_ints {n : Nat} : ∀ i ∈ bl n, i < 64 := fun i hi => (mem_bl.1 hi).1
set_option maxHeartbeats 1600000 in
set_option maxRecDepth 100000 in
theorem some_easy (W0 w : World) (ab : Nat) (ns : List Nd) (Q : Nat → Prop) (x : Int) (A B : Option Addr) (ids vals : List Int) (icap vcap : Nat) (C : Cur W0 w ab ns Q) (hx : isT ns x) (hT : Tab w) (hpos : 0 < w.heap.size) (hfull : ns.length < 65536)
    (hI : NumsAt .i64 w A ids) (hV : EnvAt w B vals) (hl : ids.length = vals.length) (hn : ids.length ≤ 9223372036854775807)
    (hg : (∀ i ∈ bl (Iv ns x), gof (ids.zip vals) i = none) ∨ (∀ i ∈ bl (Iv ns x), gof (ids.zip vals) i ≠ none)) :
    Calls Tryd.prog 12 #[ptr ab, .int .i64 x, .slice A ids.length icap, .slice B vals.length vcap] w (SomeE 1 W0 w ab ns Q x (gof (ids.zip vals))) := by
  have HC := Lib.hid C
  have HX := Lib.hid hx
  have HT := Lib.hid hT
  have HL := Lib.hid hl
  have HI := Lib.hid hI
  have HV := Lib.hid hV
  have HGO := Lib.hid (gof_ok (l := ids.zip vals) (fun p hp => hV.rng p.2 (List.of_mem_zip hp).2))
  have HW := Lib.hid (r_width C x)
  have hm := wdt_may C.wf hx
  have hw0 : (wdt ns x == 0) = false := by rcases hm with e | e | e <;> rw [e] <;> rfl
  have HM := Lib.hid hm
  have HWD : Hid ((tr ns x).w = wdt ns x) := tr_w C.wf x
  have HGA := Lib.hid (fun (W : World) (b : Below w.heap.size w W) => show Calls Tryd.prog 29 #[.slice A ids.length icap, .slice B ids.length vcap] W (GPost W (gof (ids.zip vals))) by
    have := gather_any W A B ids vals icap vcap (hI.keep b) (hV.from_ b) hl hn
    rwa [← hl] at this)
  rw [← hl]
  have HG := Lib.hid hg
  clear C hx hT hl hI hV hm hg
  go_enter Tryd.func12, Tryd.ntmps12
  go_wp2_with fail
  refine HW.out.mono ?_
  rintro e w1 ⟨rfl, hb⟩
  have HB1 := Lib.hid hb
  clear hb
  go_wp2_with fail
  refine (HGA.out w1 HB1.out).mono ?_
  rintro e w2 ⟨gb, rfl, hgb, hge, hb⟩
  have HB2 := Lib.hid (HB1.out.trans (hb.mono HB1.out.size))
  clear hb
  generalize gof (ids.zip vals) = g at *
  have HVS := Lib.hid (r_vars (HC.out.below HB2.out) x HX.out (HT.out.below HB2.out hpos))
  go_wp2_with fail
  refine HVS.out.mono ?_
  rintro e w3 ⟨VA, vcap2, rfl, hown, hb⟩
  have HB3 := Lib.hid (HB2.out.trans (hb.mono HB2.out.size))
  have HOWN := Lib.hid hown
  have HGB3 := Lib.hid (hgb.same (hb.block _ hgb.lt))
  have hn64 := bl_length (Iv ns x)
  have HMY := Lib.hid (many_any w3 gb g VA (bl (Iv ns x)) vcap2 _ HGB3.out hown mem_ints hn64)
  clear hb hown HVS hgb
  go_wp2_with fail
  refine HMY.out.mono ?_
  rintro e w' ⟨rfl, rfl⟩
  have hle := gmany_le g (bl (Iv ns x))
  have HWF : Hid (WF ns) := HC.out.wf
  have HIV : Hid (∀ i : Nat, i < 64 → (tr ns x).iv.testBit i = true → i ∈ bl (Iv ns x)) := fun i hi hb => mem_bl.2 ⟨hi, by rw [← tr_iv HC.out.wf]; exact hb⟩
  by_cases h0 : gmany g (bl (Iv ns x)) = 0
  · have HN := Lib.hid (gmany_zero.1 h0)
    generalize gmany g (bl (Iv ns x)) = n at *
    subst h0
    go_wp2_with fail
    go_ret2
    obtain ⟨foot, a, b, c, d⟩ := HC.out
    exact ⟨x, ns, rfl, (NxtK.of_many b c d (((MStep.refl a).ahead HB3.out).more (Nat.zero_le _))), HX.out, (Tr.sub_same g (tr_wf HWF.out x) (tr_nrm HWF.out a.nrm x) fun i hi hb => HN.out i (HIV.out i hi hb)).symm⟩
  · have HA : Hid (gmany g (bl (Iv ns x)) = (bl (Iv ns x)).length) := by
      rcases HG.out with h | h
      · exact absurd (gmany_zero.2 h) h0
      · exact gmany_all.2 h
    have h0' : ((gmany g (bl (Iv ns x)) : Int) == 0) = false := by simp; omega
    have hq : ((gmany g (bl (Iv ns x)) : Int) == ((bl (Iv ns x)).length : Int)) = true := by rw [HA.out]; simp
    have hq2 : (gmany g (bl (Iv ns x)) == (bl (Iv ns x)).length) = true := by rw [HA.out]; simp
    have HALL := Lib.hid (gmany_all.1 HA.out)
    generalize gmany g (bl (Iv ns x)) = n at *
    clear h0
    have HF0 := Lib.hid (fun (W : World) (b : Below w3.heap.size w3 W) => show W.cell? ⟨gb, 0, none⟩ = some (.bool (g 0).isSome) from ga_is (HGB3.out.same (b.block _ HGB3.out.lt)) (by decide))
    have BX : Hid (Below w3.heap.size w3 w3) := Below.refl _ _
    have f0 : w3.cell? ⟨gb, 0, none⟩ = some (.bool (g 0).isSome) := HF0.out w3 BX.out
    have HWd := Lib.hid (fun (W : World) (b : Below w3.heap.size w3 W) => r_width ((HC.out.below HB3.out).below b) x)
    have hv := V_val HWF.out (genv g) HX.out
    have HEv := Lib.hid (fun (W : World) (b : Below w3.heap.size w3 W) => show Calls Tryd.prog 10 #[ptr ab, .int .i64 x, .slice (some ⟨gb, 64, none⟩) 64 64] W (fun e w' => e = .returned (.int .u16 (V ns (genv g) x)) ∧ Below W.heap.size W w') by
      have := r_eval ((HC.out.below HB3.out).below b) (some ⟨gb, 64, none⟩) 64 (genv g) x (genv_at (HGB3.out.same (b.block _ HGB3.out.lt)) HGO.out)
      rwa [genv_len] at this)
    have HSUB : Hid ((tr ns x).sub g = Tr.mkC (wdt ns x) (low (wdt ns x) (V ns (genv g) x))) := by
      have hwf := tr_wf HWF.out x
      have so := Tr.sub_ok g hwf
      have hk := Tr.sub_const g hwf (fun i hi hb => HALL.out i (HIV.out i hi hb))
      have he := so.ev [] (genv g) (genv_agree g)
      rw [tr_ev HWF.out] at he
      have cf := Tr.const_form so.wf hk (so.ne (tr_some HWF.out HX.out))
      rw [so.w, HWD.out, he] at cf
      rw [show low (wdt ns x) (V ns (genv g) x) = V ns (genv g) x from Int.emod_eq_of_lt hv.1 hv.2.1]
      exact cf
    obtain ⟨foot, a, b, c, d⟩ := HC.out
    have HQ := Lib.hid (And.intro b (And.intro c d))
    have HAR := Lib.hid a
    have hgf : ¬ foot gb := fun hf => by have := a.lt _ hf; have := HB1.out.size; omega
    have HCo := Lib.hid (fun (W : World) (b : Below w3.heap.size w3 W) => u_const W ab ns foot (wdt ns x) (V ns (genv g) x) ((a.below HB3.out).below b) hfull HM.out hv.1 hv.2.2)
    clear a b c d hv hfull
    generalize V ns (genv g) x = v at HEv HCo HSUB
    generalize wdt ns x = wd at *
    go_wp2_with fail
    go_region_held3 (fun w' => w'.cell? ⟨gb, 0, none⟩ = some (.bool (g 0).isSome)) (go_keep) (first
      | (go_at_call 14; refine (HWd.out _ (by exact below_alike3 BX.out rfl rfl rfl rfl)).mono ?_; rintro e we ⟨rfl, hb⟩; have BX := Lib.hid (below_step BX.out hb rfl rfl rfl rfl); have f0 : we.cell? ⟨gb, 0, none⟩ = some (.bool (g 0).isSome) := HF0.out we BX.out; clear hb)
      | (go_at_call 10; refine (HEv.out _ (by exact below_alike3 BX.out rfl rfl rfl rfl)).mono ?_; rintro e we ⟨rfl, hb⟩; have BX := Lib.hid (below_step BX.out hb rfl rfl rfl rfl); have f0 : we.cell? ⟨gb, 0, none⟩ = some (.bool (g 0).isSome) := HF0.out we BX.out; clear hb)
      | (go_at_call 17; refine (HCo.out _ (by exact below_alike3 BX.out rfl rfl rfl rfl)).mono ?_; rintro e we ⟨y, rfl, ns', foot', st, tp, nv⟩; have f0 : we.cell? ⟨gb, 0, none⟩ = some (.bool (g 0).isSome) := (World.cell?_of_block (st.kept.block gb (Nat.lt_of_lt_of_le HGB3.out.lt BX.out.size) hgf)).trans f0; have HST := Lib.hid (MStep.behind (by exact HB3.out.trans ((below_alike3 BX.out rfl rfl rfl rfl).mono HB3.out.size)) st.many); have HTP := Lib.hid tp; clear st tp nv))
    go_wp2_with fail
    go_ret2
    exact ⟨y, ns', rfl, NxtK.of_many HQ.out.1 HQ.out.2.1 HQ.out.2.2 HST.out, HTP.out.t, by rw [HTP.out.tr, HSUB.out]⟩
end Go.Proofs.YtgbmiphaabeodaaDoor
