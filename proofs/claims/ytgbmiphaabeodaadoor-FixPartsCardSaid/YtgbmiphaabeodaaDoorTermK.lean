/-
  The first sentence of each law of chapter 2: the document's example comes out.
-/
import Derived.Test.YtgbmiphaabeodaaDoorTermS
namespace Go.Proofs.YtgbmiphaabeodaaDoor
open Go.ChangeShapes Go.WideShapes Go.ChangeAt Go.RowKit
set_option linter.unusedVariables false

section
variable {W0 w w' : World} {ab : Nat} {ns ns' : List Nd} {Q : Nat → Prop}
theorem Nxt.nd (N : Nxt W0 w ab ns Q w' ns') {x : Int} {n : Nd} (h : nd ns x = some n) : nd ns' x = some n := by
  obtain ⟨l, rfl⟩ := N.ext
  rw [nd_append (nd_pos h).2.1]; exact h
theorem Nxt.isT (N : Nxt W0 w ab ns Q w' ns') {x : Int} (h : isT ns x) : isT ns' x := by
  obtain ⟨l, rfl⟩ := N.ext
  unfold Go.Proofs.YtgbmiphaabeodaaDoor.isT at *; rw [List.length_append]; omega
theorem Nxt.wdt (N : Nxt W0 w ab ns Q w' ns') {x : Int} (h : Go.Proofs.YtgbmiphaabeodaaDoor.isT ns x) : Go.Proofs.YtgbmiphaabeodaaDoor.wdt ns' x = Go.Proofs.YtgbmiphaabeodaaDoor.wdt ns x := by
  obtain ⟨l, rfl⟩ := N.ext
  exact wdt_append h.2
theorem Nxt.V (N : Nxt W0 w ab ns Q w' ns') (env : List Int) {x : Int} (h : Go.Proofs.YtgbmiphaabeodaaDoor.isT ns x) : Go.Proofs.YtgbmiphaabeodaaDoor.V ns' env x = Go.Proofs.YtgbmiphaabeodaaDoor.V ns env x := by
  have := N.cur.wf
  obtain ⟨l, rfl⟩ := N.ext
  exact V_append this env h.2
theorem Nxt.Iv (N : Nxt W0 w ab ns Q w' ns') {x : Int} (h : Go.Proofs.YtgbmiphaabeodaaDoor.isT ns x) : Go.Proofs.YtgbmiphaabeodaaDoor.Iv ns' x = Go.Proofs.YtgbmiphaabeodaaDoor.Iv ns x := by
  have := N.cur.wf
  obtain ⟨l, rfl⟩ := N.ext
  exact Iv_append this h.2
end
theorem isT_nd {ns : List Nd} {x : Int} {n : Nd} (h : nd ns x = some n) : isT ns x := ⟨(nd_pos h).1, (nd_pos h).2.1⟩
theorem V_var {ns : List Nd} (hwf : WF ns) (env : List Int) {x wd id : Int} (h : nd ns x = some ⟨2, wd, id, 0, 0, 0⟩) : V ns env x = low wd (env.getD id.toNat 0) := by
  rw [V_of hwf env h]; unfold nv; simp
theorem made_two_V {ns ns' : List Nd} {op p q x : Int} (h0 : 4 ≤ op) (h1 : op ≤ 15) (h : MadeP ns ⟨op, outV op (wdt ns p), 0, p, q, 0⟩ x ns') (env : List Int) :
    V ns' env x = doM op (wdt ns p) (low (wdt ns p) (V ns env p)) (low (wdt ns p) (V ns env q)) := by
  rw [h.v]; unfold nv; simp only
  rw [if_neg (by omega), if_neg (by omega), if_neg (by omega), if_neg (by omega)]
theorem allC_two {ns : List Nd} {op wd p q : Int} (hp : isC ns p) (hq : isC ns q) : AllC ns ⟨op, wd, 0, p, q, 0⟩ 3 := by
  intro j hj ht
  have : j = 0 ∨ j = 1 ∨ j = 2 := by omega
  rcases this with rfl | rfl | rfl
  · exact hp
  · exact hq
  · exact absurd ht (by simp [isT, pt])
theorem env_own {w : World} {g : Nat} {cs : Array Value} {t : TypeId} (h : Has w g t cs) (env : List Int) (hc : ∀ (i : Nat) (v : Int), env[i]? = some v → cs[i]? = some (.int .u16 v)) (hr : ∀ v ∈ env, 0 ≤ v ∧ v ≤ 65535) (hl : env.length ≤ 65536) : EnvAt w (some ⟨g, 0, none⟩) env :=
  ⟨fun i v hv => ⟨_, rfl, by
    have hadd : (⟨g, 0, none⟩ : Addr).add i = ⟨g, i, none⟩ := by unfold Addr.add; split <;> simp_all
    rw [hadd, h.cell]; exact hc i v hv⟩, fun a ha => by injection ha with ha; subst ha; exact h.lt, hr, by omega⟩
theorem m8 : mayw 8 := .inr (.inl rfl)
theorem m1 : mayw 1 := .inl rfl
theorem m16 : mayw 16 := .inr (.inr rfl)
set_option maxRecDepth 100000 in
theorem awake_any (w : World) (hT : Tab w) (h0 : 0 < w.heap.size) :
    Calls Tryd.prog 6 #[] w fun e w' => e = .returned (.bool true) ∧ Below w.heap.size w w' := by
  have HT := Lib.hid hT
  clear hT
  go_enter Tryd.func6, Tryd.ntmps6
  go_wp2_with fail
  refine (new_any _).mono ?_
  rintro e w1 ⟨rfl, ha, hb⟩
  have C1 := Lib.hid (Cur.of_new ha hb)
  clear ha hb
  go_wp2_with fail
  refine (l_const _ _ _ _ _ 8 200 C1.out (by simp) m8 (by decide) (by decide)).mono ?_
  rintro e w2 ⟨x, ns2, rfl, N2, hx2, v2⟩
  have NV2 := Lib.hid v2
  have HN2 := Lib.hid N2
  have HX2 := Lib.hid hx2
  have L2 : Hid (ns2.length ≤ 1) := N2.len
  clear N2 hx2 v2
  go_wp2_with fail
  refine (l_const _ _ _ _ _ 8 100 HN2.out.cur (by have := L2.out; omega) m8 (by decide) (by decide)).mono ?_
  rintro e w3 ⟨y, ns3, rfl, N3, hy3, v3⟩
  have NV3 := Lib.hid v3
  have HN3 := Lib.hid N3
  have HY3 := Lib.hid hy3
  have HX3 := Lib.hid (N3.nd HX2.out)
  have L3 : Hid (ns3.length ≤ 2) := by have := N3.len; have := L2.out; show ns3.length ≤ 2; omega
  clear N3 hy3 v3
  go_wp2_with fail
  refine (l_two _ _ _ _ _ 7 x y HN3.out.cur (by have := L3.out; omega) (by decide) (by decide) (isT_nd HX3.out) (isT_nd HY3.out) ((wdt_of HY3.out).trans (wdt_of HX3.out).symm)).mono ?_
  rintro e w4 ⟨z, ns4, rfl, N4, hz4⟩
  have HN4 := Lib.hid N4
  have HZ4 := Lib.hid hz4
  have HX4 := Lib.hid (N4.nd HX3.out)
  have L4 : Hid (ns4.length ≤ 3) := by have := N4.len; have := L3.out; show ns4.length ≤ 3; omega
  obtain ⟨m, hm, hm1⟩ := hz4.c (allC_two ⟨_, HX3.out, rfl⟩ ⟨_, HY3.out, rfl⟩)
  have hmv : m.val = 44 := by
    have e1 := made_two_V (by decide) (by decide) hz4 []
    rw [V_const N4.cur.wf [] hm hm1, wdt_of HX3.out, V_const HN3.out.cur.wf [] HX3.out rfl, V_const HN3.out.cur.wf [] HY3.out rfl] at e1
    rw [e1]; decide
  have HK := Lib.hid (r_known N4.cur z m hm hm1)
  rw [hmv] at HK
  clear N4 hz4 hm hm1 hmv
  go_wp2_with fail
  refine HK.out.mono ?_
  rintro e w5 ⟨rfl, hb5⟩
  have C5 := Lib.hid (HN4.out.cur.below hb5)
  clear hb5
  have HNOV : Hid (∀ (i : Nat) (m : Nd), ns4[i]? = some m → m.op = 2 → False) := fun i m hi ho => by
    have := NV2.out i m (NV3.out i m (HZ4.out.n i m hi ho) ho) ho
    simp at this
  go_wp2_with fail
  refine (l_vari _ _ _ _ _ 8 0 C5.out (by have := L4.out; omega) m8 (by decide) (by decide) (fun i m hi ho => (HNOV.out i m hi ho).elim)).mono ?_
  rintro e w6 ⟨v, ns6, rfl, N6, hv6, nv6⟩
  have HN6 := Lib.hid N6
  have HV6 := Lib.hid hv6
  have HX6 := Lib.hid (N6.nd HX4.out)
  have L6 : Hid (ns6.length ≤ 4) := by have := N6.len; have := L4.out; show ns6.length ≤ 4; omega
  clear N6 hv6 nv6
  go_wp2_with fail
  refine (l_two _ _ _ _ _ 7 v x HN6.out.cur (by have := L6.out; omega) (by decide) (by decide) (isT_nd HV6.out) (isT_nd HX6.out) ((wdt_of HX6.out).trans (wdt_of HV6.out).symm)).mono ?_
  rintro e w7 ⟨s, ns7, rfl, N7, hs7⟩
  have hV : V ns7 [1] s = 201 := by
    rw [made_two_V (by decide) (by decide) hs7 [1], wdt_of HV6.out, V_var HN6.out.cur.wf [1] HV6.out, V_const HN6.out.cur.wf [1] HX6.out rfl]
    decide
  have hwd : wdt ns7 s = 8 := by rw [hs7.w]; show outV 7 (wdt ns6 v) = 8; rw [wdt_of HV6.out]; rfl
  have hI : Iv ns7 s = 1 := by
    rw [hs7.i]; unfold niv; simp only
    rw [if_neg (by decide), Iv_of HN6.out.cur.wf HV6.out, const_I HN6.out.cur.wf (fun _ => ⟨_, HX6.out, rfl⟩), Iv_none (x := 0) (by unfold isT; omega)]
    simp [niv]
  have C7 := N7.cur
  have HE := Lib.hid (r_eval (C7.alloc (.cells #[.int .u16 1] 24)) (some ⟨w7.heap.size, 0, none⟩) 1 [1] s (env_own (Has.new w7 24 #[.int .u16 1]) [1] (fun i u hu => by
    have : i = 0 := by have := (List.getElem?_eq_some_iff.1 hu).1; simpa using this
    subst this
    simpa using hu) (by decide) (by decide)))
  rw [hV] at HE
  have HC7 := Lib.hid C7
  have HST := Lib.hid hs7.t
  have HWD := Lib.hid hwd
  have HIV := Lib.hid hI
  clear C7 N7 hs7 hV hwd hI
  go_wp2_with fail
  refine HE.out.mono ?_
  rintro e w8 ⟨rfl, hb8⟩
  have C8 := Lib.hid ((HC7.out.alloc _).below hb8)
  clear hb8
  have HW8 := Lib.hid (r_width C8.out s)
  rw [HWD.out] at HW8
  go_wp2_with fail
  refine HW8.out.mono ?_
  rintro e w9 ⟨rfl, hb9⟩
  have C9 := Lib.hid (C8.out.below hb9)
  clear hb9
  have HVS := Lib.hid (r_vars C9.out s HST.out (HT.out.below C9.out.below0 h0))
  rw [HIV.out, show bl 1 = [0] by decide] at HVS
  go_wp2_with fail
  refine HVS.out.mono ?_
  rintro e w10 ⟨A, cap, rfl, hown, hb10⟩
  have C10 := Lib.hid (C9.out.below hb10)
  clear hown hb10
  go_wp2
  go_ret
  exact ⟨rfl, C10.out.below0⟩
end Go.Proofs.YtgbmiphaabeodaaDoor
