/-
  awake of the laws of fix: a variable is put in.
-/
import Derived.Test.YtgbmiphaabeodaaDoorFixA
namespace Go.Proofs.YtgbmiphaabeodaaDoor
open Go.ChangeShapes Go.WideShapes Go.ChangeAt Go.RowKit
set_option linter.unusedVariables false
attribute [local go_sem ↓] Go.wp_at_zero Go.wp_at_succ

section
variable {k : Nat} {W0 w w' : World} {ab : Nat} {ns ns' : List Nd} {Q : Nat → Prop}
theorem NxtK.nd (N : NxtK k W0 w ab ns Q w' ns') {x : Int} {n : Nd} (h : Go.Proofs.YtgbmiphaabeodaaDoor.nd ns x = some n) : Go.Proofs.YtgbmiphaabeodaaDoor.nd ns' x = some n := by
  obtain ⟨l, rfl⟩ := N.ext
  rw [nd_append (nd_pos h).2.1]; exact h
theorem NxtK.isT (N : NxtK k W0 w ab ns Q w' ns') {x : Int} (h : Go.Proofs.YtgbmiphaabeodaaDoor.isT ns x) : Go.Proofs.YtgbmiphaabeodaaDoor.isT ns' x := by
  obtain ⟨n, hn, _⟩ := nd_some h
  exact isT_nd (N.nd hn)
theorem NxtK.tr (N : NxtK k W0 w ab ns Q w' ns') {x : Int} (h : Go.Proofs.YtgbmiphaabeodaaDoor.isT ns x) : Go.Proofs.YtgbmiphaabeodaaDoor.tr ns' x = Go.Proofs.YtgbmiphaabeodaaDoor.tr ns x := (ext_tr N.cur.wf N.ext h).2
end
theorem const_of_tr {ns : List Nd} (hwf : WF ns) {y w v : Int} (ht : isT ns y) (h : tr ns y = Tr.mkC w v) : ∃ n, nd ns y = some n ∧ n.op = 1 ∧ n.val = v ∧ n.w = w := by
  obtain ⟨n, hn, _⟩ := nd_some ht
  rw [tr_of hwf hn] at h
  injection h with h1 h2 h3
  exact ⟨n, hn, h1, h3, h2⟩
theorem nums_own {kd : IntKind} {w : World} {g : Nat} {t : TypeId} {zs : List Int} (h : Has w g t ⟨zs.map (Value.int kd)⟩) (hw : ∀ z ∈ zs, (Lit.int kd z).wf = true) : NumsAt kd w (some ⟨g, 0, none⟩) zs :=
  ⟨fun i z hz => ⟨_, rfl, by
    have e : (⟨g, 0, none⟩ : Addr).add i = ⟨g, i, none⟩ := by unfold Addr.add; split; simp_all; simp
    rw [e, h.cell]; simp [hz]⟩, (fun a ha => by injection ha with ha; subst ha; exact h.lt), hw⟩
def Awk (w : World) (e : Ending) (w' : World) : Prop := e = .returned (.bool true) ∧ Below w.heap.size w w'
set_option maxHeartbeats 1600000 in
set_option maxRecDepth 100000 in
theorem awake3_any (w : World) (hT : Tab w) (h0 : 0 < w.heap.size) :
    Calls Tryd.prog 11 #[] w (Awk w) := by
  have HT := Lib.hid hT
  clear hT
  go_enter Tryd.func11, Tryd.ntmps11
  go_wp2_with fail
  refine (new_any _).mono ?_
  rintro e w1 ⟨rfl, ha, hb⟩
  have C1 := Lib.hid (Cur.of_new ha hb)
  clear ha hb
  go_wp2_with fail
  refine (l_vari _ _ _ _ _ 8 0 C1.out (by simp) m8 (by decide) (by decide) (fun i m hi => by simp at hi)).mono ?_
  rintro e w2 ⟨v, ns2, rfl, N2, hv2, nv2⟩
  have HN2 := Lib.hid N2
  have HV2 := Lib.hid hv2
  have L2 : Hid (ns2.length ≤ 1) := N2.len
  clear N2 hv2 nv2
  go_wp2_with fail
  refine (l_const _ _ _ _ _ 8 5 HN2.out.cur (by have := L2.out; omega) m8 (by decide) (by decide)).mono ?_
  rintro e w3 ⟨k, ns3, rfl, N3, hk3, _⟩
  have HN3 := Lib.hid N3
  have HK3 := Lib.hid hk3
  have HV3 := Lib.hid (N3.nd HV2.out)
  have L3 : Hid (ns3.length ≤ 2) := by have := N3.len; have := L2.out; show ns3.length ≤ 2; omega
  clear N3 hk3
  go_wp2_with fail
  refine (l_two _ _ _ _ _ 9 v k HN3.out.cur (by have := L3.out; omega) (by decide) (by decide) (isT_nd HV3.out) (isT_nd HK3.out) ((wdt_of HK3.out).trans (wdt_of HV3.out).symm)).mono ?_
  rintro e w4 ⟨s, ns4, rfl, N4, hs4⟩
  have HN4 := Lib.hid N4
  have HK4 := Lib.hid (N4.nd HK3.out)
  have L4 : Hid (ns4.length ≤ 3) := by have := N4.len; have := L3.out; show ns4.length ≤ 3; omega
  have HTR : Hid (tr ns4 s = .n 9 8 0 (.n 2 8 0 .o .o .o) (.n 1 8 5 .o .o .o) .o) := by
    have := (made_tr HN3.out.cur.wf N4.cur.wf N4.ext (nw_two HN3.out.cur.wf (by decide) (by decide) (isT_nd HV3.out) (isT_nd HK3.out) ((wdt_of HK3.out).trans (wdt_of HV3.out).symm)) (show (3 : Int) ≤ 9 by decide) hs4).tr
    show tr ns4 s = _
    rw [this, tr_leaf HN3.out.cur.wf HV3.out, tr_leaf HN3.out.cur.wf HK3.out, tr_zero, wdt_of HV3.out]
    rfl
  have HST := Lib.hid hs4.t
  have HIV : Hid (Iv ns4 s = 1) := by
    show Iv ns4 s = 1
    rw [← tr_iv N4.cur.wf, HTR.out]; rfl
  clear N4 hs4
  have ID := Lib.hid (nums_own (kd := .i64) (zs := [0]) (Has.new w4 3 #[.int .i64 0]) (fun z hz => by rw [List.mem_singleton.1 hz]; rfl))
  have EN := Lib.hid (env_own (Has.new (w4.alloc (.cells #[.int .i64 0] 3)) 24 #[.int .u16 7]) [7] (fun i u hu => by
    match i, hu with
    | 0, hu => simpa using hu) (by decide) (by decide))
  have HTB : Hid (Tab ((w4.alloc (.cells #[.int .i64 0] 3)).alloc (.cells #[.int .u16 7] 24))) := HT.out.below (((HN4.out.cur.below0).alloc HN4.out.cur.below0.size _).alloc (by have := HN4.out.cur.below0.size; simp; omega) _) h0
  have HP := Lib.hid (show 0 < ((w4.alloc (.cells #[.int .i64 0] 3)).alloc (.cells #[.int .u16 7] 24)).heap.size by simp)
  have CA := Lib.hid ((HN4.out.cur.alloc (.cells #[.int .i64 0] 3)).alloc (.cells #[.int .u16 7] 24))
  have IDA := Lib.hid (ID.out.keep ((Below.refl _ _).alloc (Nat.le_refl _) (.cells #[.int .u16 7] 24)))
  have HEN2 : Hid (EnvAt ((w4.alloc (.cells #[.int .i64 0] 3)).alloc (.cells #[.int .u16 7] 24)) (some ⟨w4.heap.size + 1, 0, none⟩) [7]) := by
    have := EN.out
    rwa [show (w4.alloc (.cells #[.int .i64 0] 3)).heap.size = w4.heap.size + 1 by simp] at this
  have HSO := Lib.hid (some_easy w _ _ ns4 _ s (some ⟨w4.heap.size, 0, none⟩) (some ⟨w4.heap.size + 1, 0, none⟩) [0] [7] 1 1 CA.out HST.out HTB.out HP.out (by have := L4.out; omega) IDA.out HEN2.out rfl (by decide) (.inr (by rw [HIV.out]; decide)))
  clear ID EN IDA HEN2 HTB HP
  go_wp2_with fail
  refine HSO.out.mono ?_
  rintro e w5 ⟨y, ns5, rfl, N5, hyt, hyr⟩
  rw [HTR.out] at hyr
  obtain ⟨n, hn, hn1, hn2, _⟩ := const_of_tr N5.cur.wf hyt (show tr ns5 y = Tr.mkC 8 35 from hyr.trans rfl)
  have HN5 := Lib.hid N5
  have HK5 := Lib.hid (N5.nd HK4.out)
  have HS5 := Lib.hid (N5.isT HST.out)
  have L5 : Hid (ns5.length ≤ 4) := by have := N5.len; have := L4.out; show ns5.length ≤ 4; omega
  have HKN := Lib.hid (r_known N5.cur y n hn hn1)
  rw [hn2] at HKN
  clear N5 hyt hyr hn hn1 hn2
  go_wp2_with fail
  refine HKN.out.mono ?_
  rintro e w6 ⟨rfl, hb⟩
  have C6 := Lib.hid (HN5.out.cur.below hb)
  clear hb
  go_wp2_with fail
  refine (all_nil _ _ _ _ _ 0 none C6.out (by have := L5.out; omega)).mono ?_
  rintro e w7 ⟨t, ns7, rfl, N7, ht7⟩
  have HN7 := Lib.hid N7
  have HK7 := Lib.hid (N7.nd HK5.out)
  have HS7 := Lib.hid (N7.isT HS5.out)
  have HKT := Lib.hid (r_known N7.cur t _ ht7 rfl)
  clear N7 ht7
  go_wp2_with fail
  refine HKT.out.mono ?_
  rintro e w8 ⟨rfl, hb⟩
  have C8 := Lib.hid (HN7.out.cur.below hb)
  clear hb
  obtain ⟨foot, a, b, c, d⟩ := C8.out
  have HA8 := Lib.hid a
  have HB8 := Lib.hid b
  clear a b c d
  go_wp2_with fail
  refine (size_yes w8 _ ns7 foot k HA8.out (isT_nd HK7.out)).mono ?_
  rintro e w9 ⟨ls, rfl, hw, hb⟩
  have h1 : ls.length = 1 := wl_leaf HA8.out.wf HK7.out (.inl rfl) hw
  have HA9 := Lib.hid (HA8.out.below hb)
  have HB9 := Lib.hid (HB8.out.trans (hb.mono HB8.out.size))
  have h1t : ((ls.length : Int) == 1) = true := by rw [h1]; rfl
  clear hw hb h1
  go_wp2_with fail
  refine (size_yes w9 _ ns7 foot s HA9.out HS7.out).mono ?_
  rintro e w10 ⟨ls2, rfl, hw, hb⟩
  have h2 := wl_pos hw
  have h2' : (1 : Int) ≤ (ls2.length : Int) := by omega
  have HB10 := Lib.hid (HB9.out.trans (hb.mono HB9.out.size))
  clear hw hb
  go_wp2_with fail
  go_ret
  exact ⟨rfl, HB10.out⟩
end Go.Proofs.YtgbmiphaabeodaaDoor
