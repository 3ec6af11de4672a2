/-
  The law FixKnown: terms by hand: what is none, one variable twice, sizes. It takes no input.
-/
import Derived.Test.YtchbdnifcckloaaDoorFixC
import Derived.Test.YtchbdnifcckloaaDoorCards
import Derived.SevenTiedAt
namespace Go.Proofs.YtchbdnifcckloaaDoor.fixKnown
open Go.ChangeShapes Go.WideShapes Go.ChangeAt Go.RowKit
set_option linter.unusedVariables false


set_option maxHeartbeats 3200000 in
set_option maxRecDepth 100000 in
theorem walk  (w : World)  (hT : Tab w) (hpos : 0 < w.heap.size) :
    Calls Tryd.prog 6 #[] w fun e w' => e = .returned (.bool true) ∧ Below w.heap.size w w' := by
  go_enter Tryd.func6, Tryd.ntmps6
  go_wp2_with fail
  refine (awake3_any _ hT hpos).mono ?_
  rintro e w1 ⟨rfl, hb⟩
  have HB1 := Lib.hid hb
  have HT := Lib.hid hT
  clear hb hT
  go_wp2_with fail
  refine (new_any _).mono ?_
  rintro e w2 ⟨rfl, ha, hb⟩
  have C := Lib.hid (Cur.of_new ha hb)
  clear ha hb
  go_wp2_with fail
  refine (l_vari _ _ _ _ _ 8 0 C.out (by simp) m8 (by decide) (by decide) (fun i m hi => by simp at hi)).mono ?_
  rintro e w3 ⟨v, ns3, rfl, N, hv, nvv⟩
  have C := Lib.hid N.cur
  have HV := Lib.hid hv
  have HNV := Lib.hid nvv
  have L : Hid (ns3.length ≤ 1) := N.len
  clear N hv nvv
  go_wp2_with fail
  refine (l_vari _ _ _ _ _ 8 1 C.out (by have := L.out; omega) m8 (by decide) (by decide) (fun i m hi ho hw => by
    rcases HNV.out i m hi ho with h | rfl
    · simp at h
    · simp at hw)).mono ?_
  rintro e w4 ⟨u, ns4, rfl, N, hu, nvu⟩
  have C := Lib.hid N.cur
  have HV := Lib.hid (N.nd HV.out)
  have HU := Lib.hid hu
  have L : Hid (ns4.length ≤ 2) := by have := N.len; have := L.out; show ns4.length ≤ 2; omega
  clear N hu nvu HNV
  have C4 := C
  go_wp2_with fail
  refine (l_two _ _ _ _ _ 7 v u C.out (by have := L.out; omega) (by decide) (by decide) (isT_nd HV.out) (isT_nd HU.out) ((wdt_of HU.out).trans (wdt_of HV.out).symm)).mono ?_
  rintro e w5 ⟨s, ns5, rfl, N, hs⟩
  have C := Lib.hid N.cur
  have HTR : Hid (tr ns5 s = .n 7 8 0 (.n 2 8 0 .o .o .o) (.n 2 8 1 .o .o .o) .o) := by
    have := (made_tr C4.out.wf N.cur.wf N.ext (nw_two C4.out.wf (by decide) (by decide) (isT_nd HV.out) (isT_nd HU.out) ((wdt_of HU.out).trans (wdt_of HV.out).symm)) (show (3 : Int) ≤ 7 by decide) hs).tr
    show tr ns5 s = _
    rw [this, tr_leaf C4.out.wf HV.out, tr_leaf C4.out.wf HU.out, tr_zero, wdt_of HV.out]
    rfl
  have HV := Lib.hid (N.nd HV.out)
  have HS := Lib.hid hs.t
  have L : Hid (ns5.length ≤ 3) := by have := N.len; have := L.out; show ns5.length ≤ 3; omega
  clear N hs C4 HU
  go_wp2_with fail
  refine (some_none _ _ _ _ _ 0 none none 0 0 0 0 C.out (wdt_none (by unfold isT; omega))).mono ?_
  rintro e w6 ⟨rfl, hb⟩
  have C := Lib.hid (C.out.below hb)
  clear hb
  have HSL := Lib.hid (some_len _ _ _ _ _ s (some ⟨w6.heap.size, 0, none⟩) none 1 0 1 0 (C.out.alloc (.cells #[.int .i64 0] 3)) HS.out (by decide))
  go_wp2_with fail
  refine HSL.out.mono ?_
  rintro e w7 ⟨rfl, hb⟩
  have C := Lib.hid ((C.out.alloc (.cells #[.int .i64 0] 3)).below hb)
  clear hb HSL
  have ID := Lib.hid (nums_own (kd := .i64) (zs := [0, 0, 99, -1]) (Has.new w7 3 #[.int .i64 0, .int .i64 0, .int .i64 99, .int .i64 (-1)]) (by decide))
  have EN := Lib.hid (env_own (Has.new (w7.alloc (.cells #[.int .i64 0, .int .i64 0, .int .i64 99, .int .i64 (-1)] 3)) 31 #[.int .u16 300, .int .u16 1, .int .u16 2, .int .u16 3]) [300, 1, 2, 3] (fun i u hu => by
    match i, hu with
    | 0, hu => simpa using hu
    | 1, hu => simpa using hu
    | 2, hu => simpa using hu
    | 3, hu => simpa using hu) (by decide) (by decide))
  have BB : Hid (Below w7.heap.size w7 ((w7.alloc (.cells #[.int .i64 0, .int .i64 0, .int .i64 99, .int .i64 (-1)] 3)).alloc (.cells #[.int .u16 300, .int .u16 1, .int .u16 2, .int .u16 3] 31))) := (((Below.refl _ _).alloc (Nat.le_refl _) _).alloc (by simp) _)
  have HTB : Hid (Tab ((w7.alloc (.cells #[.int .i64 0, .int .i64 0, .int .i64 99, .int .i64 (-1)] 3)).alloc (.cells #[.int .u16 300, .int .u16 1, .int .u16 2, .int .u16 3] 31))) := HT.out.below (HB1.out.trans ((C.out.below0.trans (BB.out.mono C.out.below0.size)).mono HB1.out.size)) hpos
  have HP := Lib.hid (show 0 < ((w7.alloc (.cells #[.int .i64 0, .int .i64 0, .int .i64 99, .int .i64 (-1)] 3)).alloc (.cells #[.int .u16 300, .int .u16 1, .int .u16 2, .int .u16 3] 31)).heap.size by simp)
  have CA := Lib.hid ((C.out.alloc (.cells #[.int .i64 0, .int .i64 0, .int .i64 99, .int .i64 (-1)] 3)).alloc (.cells #[.int .u16 300, .int .u16 1, .int .u16 2, .int .u16 3] 31))
  have IDA := Lib.hid (ID.out.keep ((Below.refl _ _).alloc (Nat.le_refl _) (.cells #[.int .u16 300, .int .u16 1, .int .u16 2, .int .u16 3] 31)))
  have HEN2 : Hid (EnvAt ((w7.alloc (.cells #[.int .i64 0, .int .i64 0, .int .i64 99, .int .i64 (-1)] 3)).alloc (.cells #[.int .u16 300, .int .u16 1, .int .u16 2, .int .u16 3] 31)) (some ⟨w7.heap.size + 1, 0, none⟩) [300, 1, 2, 3]) := by
    have := EN.out
    rwa [show (w7.alloc (.cells #[.int .i64 0, .int .i64 0, .int .i64 99, .int .i64 (-1)] 3)).heap.size = w7.heap.size + 1 by simp] at this
  have HSO := Lib.hid (some_any _ _ _ 100 ns5 _ s (some ⟨w7.heap.size, 0, none⟩) (some ⟨w7.heap.size + 1, 0, none⟩) [0, 0, 99, -1] [300, 1, 2, 3] 4 4 CA.out HS.out HTB.out HP.out (by have := L.out; omega) IDA.out HEN2.out rfl (by decide) (fun ls h => by have := h.len; have := HS.out.2; have := L.out; omega) (by decide) (by have := L.out; omega))
  clear ID EN IDA HEN2 HTB HP CA BB
  go_wp2_with fail
  refine HSO.out.mono ?_
  rintro e w8 ⟨x, nsw8, rfl, N, ⟨hyt, hyr⟩, _⟩
  rw [HTR.out] at hyr
  have C := Lib.hid N.cur
  have HX := Lib.hid (show tr nsw8 x = .n 7 8 0 (.n 1 8 44 .o .o .o) (.n 2 8 1 .o .o .o) .o from hyr.trans rfl)
  have HXT := Lib.hid hyt
  have HTR := Lib.hid ((N.tr HS.out).trans HTR.out)
  have HS := Lib.hid (N.isT HS.out)
  have HV := Lib.hid (N.nd HV.out)
  have L : Hid (nsw8.length ≤ 103) := by have := N.len; have := L.out; show nsw8.length ≤ 103; omega
  clear N hyt hyr HSO
  have ID := Lib.hid (nums_own (kd := .i64) (zs := [0, 1]) (Has.new w8 3 #[.int .i64 0, .int .i64 1]) (by decide))
  have EN := Lib.hid (env_own (Has.new (w8.alloc (.cells #[.int .i64 0, .int .i64 1] 3)) 31 #[.int .u16 200, .int .u16 100]) [200, 100] (fun i u hu => by
    match i, hu with
    | 0, hu => simpa using hu
    | 1, hu => simpa using hu) (by decide) (by decide))
  have BB : Hid (Below w8.heap.size w8 ((w8.alloc (.cells #[.int .i64 0, .int .i64 1] 3)).alloc (.cells #[.int .u16 200, .int .u16 100] 31))) := (((Below.refl _ _).alloc (Nat.le_refl _) _).alloc (by simp) _)
  have HTB : Hid (Tab ((w8.alloc (.cells #[.int .i64 0, .int .i64 1] 3)).alloc (.cells #[.int .u16 200, .int .u16 100] 31))) := HT.out.below (HB1.out.trans ((C.out.below0.trans (BB.out.mono C.out.below0.size)).mono HB1.out.size)) hpos
  have HP := Lib.hid (show 0 < ((w8.alloc (.cells #[.int .i64 0, .int .i64 1] 3)).alloc (.cells #[.int .u16 200, .int .u16 100] 31)).heap.size by simp)
  have CA := Lib.hid ((C.out.alloc (.cells #[.int .i64 0, .int .i64 1] 3)).alloc (.cells #[.int .u16 200, .int .u16 100] 31))
  have IDA := Lib.hid (ID.out.keep ((Below.refl _ _).alloc (Nat.le_refl _) (.cells #[.int .u16 200, .int .u16 100] 31)))
  have HEN2 : Hid (EnvAt ((w8.alloc (.cells #[.int .i64 0, .int .i64 1] 3)).alloc (.cells #[.int .u16 200, .int .u16 100] 31)) (some ⟨w8.heap.size + 1, 0, none⟩) [200, 100]) := by
    have := EN.out
    rwa [show (w8.alloc (.cells #[.int .i64 0, .int .i64 1] 3)).heap.size = w8.heap.size + 1 by simp] at this
  have HSO := Lib.hid (some_any _ _ _ 200 nsw8 _ s (some ⟨w8.heap.size, 0, none⟩) (some ⟨w8.heap.size + 1, 0, none⟩) [0, 1] [200, 100] 2 2 CA.out HS.out HTB.out HP.out (by have := L.out; omega) IDA.out HEN2.out rfl (by decide) (fun ls h => by have := h.len; have := HS.out.2; have := L.out; omega) (by decide) (by have := L.out; omega))
  clear ID EN IDA HEN2 HTB HP CA BB
  go_wp2_with fail
  refine HSO.out.mono ?_
  rintro e w9 ⟨y, nsw9, rfl, N, ⟨hyt, hyr⟩, _⟩
  rw [HTR.out] at hyr
  obtain ⟨n, hn, hn1, hn2, _⟩ := const_of_tr N.cur.wf hyt (show tr nsw9 y = Tr.mkC 8 44 from hyr.trans rfl)
  have C := Lib.hid N.cur
  have HX := Lib.hid ((N.tr HXT.out).trans HX.out)
  have HV := Lib.hid (N.nd HV.out)
  have L : Hid (nsw9.length ≤ 303) := by have := N.len; have := L.out; show nsw9.length ≤ 303; omega
  have HKN := Lib.hid (r_known N.cur y n hn hn1)
  rw [hn2] at HKN
  have HXT := Lib.hid (N.isT HXT.out)
  clear N hyt hyr hn hn1 hn2 HSO HS HTR
  go_wp2_with fail
  refine HKN.out.mono ?_
  rintro e w10 ⟨rfl, hb⟩
  have C := Lib.hid (C.out.below hb)
  clear hb HKN
  have HAE := Lib.hid (all_err _ (w10.alloc (.cells #[.int .i64 v] 33)) _ _ _ v 8 ⟨w10.heap.size, 0, none⟩ 1 (C.out.alloc _) (wdt_of HV.out) (.inr rfl) (by simp) ((Has.new w10 33 #[.int .i64 v]).cell 0) (by decide) (by decide))
  rw [show tru 8 = 2 from rfl] at HAE
  go_wp2_with fail
  refine HAE.out.mono ?_
  rintro e w11 ⟨rfl, hb⟩
  have C := Lib.hid ((C.out.alloc (.cells #[.int .i64 v] 33)).below hb)
  clear hb HAE
  have HAE := Lib.hid (any_err _ (w11.alloc (.cells #[.int .i64 0] 33)) _ _ _ 0 0 ⟨w11.heap.size, 0, none⟩ 1 (C.out.alloc _) (wdt_none (by unfold isT; omega)) (.inl rfl) (by simp) ((Has.new w11 33 #[.int .i64 0]).cell 0) (by decide) (by decide))
  rw [show tru 0 = 1 from rfl] at HAE
  go_wp2_with fail
  refine HAE.out.mono ?_
  rintro e w12 ⟨rfl, hb⟩
  have C := Lib.hid ((C.out.alloc (.cells #[.int .i64 0] 33)).below hb)
  clear hb HAE
  go_wp2_with fail
  refine (any_nil _ _ _ _ _ 0 none C.out (by have := L.out; omega)).mono ?_
  rintro e w13 ⟨z, ns13, rfl, N, hz⟩
  have C := Lib.hid N.cur
  have HX := Lib.hid (((ext_tr N.cur.wf N.ext HXT.out).2).trans HX.out)
  have HV := Lib.hid (N.nd HV.out)
  have HKZ := Lib.hid (r_known N.cur z _ hz rfl)
  clear N hz HXT
  go_wp2_with fail
  refine HKZ.out.mono ?_
  rintro e w14 ⟨rfl, hb⟩
  have C := Lib.hid (C.out.below hb)
  clear hb HKZ
  have HE := Lib.hid (r_eval (C.out.alloc (.cells #[.int .u16 9, .int .u16 10] 31)) (some ⟨w14.heap.size, 0, none⟩) 2 [9, 10] x (env_own (Has.new w14 31 #[.int .u16 9, .int .u16 10]) [9, 10] (fun i u hu => by
    match i, hu with
    | 0, hu => simpa using hu
    | 1, hu => simpa using hu) (by decide) (by decide)))
  rw [← tr_ev C.out.wf, HX.out] at HE
  rw [show (Tr.n 7 8 0 (.n 1 8 44 .o .o .o) (.n 2 8 1 .o .o .o) .o).ev [9, 10] = 54 from rfl] at HE
  go_wp2_with fail
  refine HE.out.mono ?_
  rintro e w15 ⟨rfl, hb⟩
  have C := Lib.hid ((C.out.alloc (.cells #[.int .u16 9, .int .u16 10] 31)).below hb)
  clear hb HE
  obtain ⟨foot, a, b, c, d⟩ := C.out
  have HA8 := Lib.hid a
  have HB8 := Lib.hid b
  clear a b c d
  go_wp2_with fail
  refine (size_no w15 _ ns13 foot 0 HA8.out (by unfold isT; omega)).mono ?_
  rintro e w16 ⟨rfl, hb⟩
  have HA9 := Lib.hid (HA8.out.below hb)
  have HB9 := Lib.hid (HB8.out.trans (hb.mono HB8.out.size))
  clear hb
  go_wp2_with fail
  refine (size_yes w16 _ ns13 foot v HA9.out (isT_nd HV.out)).mono ?_
  rintro e w17 ⟨ls, rfl, hw, hb⟩
  have h1 : ls.length = 1 := wl_leaf HA9.out.wf HV.out (.inr rfl) hw
  have HB10 := Lib.hid (HB9.out.trans (hb.mono HB9.out.size))
  have h1t : ((ls.length : Int) == 1) = true := by rw [h1]; rfl
  clear hw hb h1
  go_wp2_with fail
  go_ret
  exact ⟨rfl, HB1.out.trans (HB10.out.mono HB1.out.size)⟩

set_option maxRecDepth 100000 in
theorem lifted (os : Os) (started : os.Started) (H : Type) (enc : TypeId × Value → H) :
    ReturnsInHanded {} Tryd.checked os 6 .any (fun w args => (Rows.fixKnownSpec.pre enc Tryd.prog Tryd.f6 [] false w args ∧ laidMetH Tryd.prog laidTab w) ∧ sizedMet enc Tryd.prog Tryd.f6 (OpenSpec.ofChange Rows.fixKnownSpec) false w args)
      (Rows.fixKnownSpec.post enc Tryd.prog Tryd.f6 false true false false) := by
  refine returnsInHanded_of_change_and (C := Tryd.checked) (X := fun w _ => laidMetH Tryd.prog laidTab w) (fun _ _ _ hh h => h.of_heap hh) ownDoor started (by kernel_rfl) Tryd.func6
    (ChangeSpec.witness_shaped (enc := enc) (C := Tryd.checked) (os := os) (X := fun w _ => laidMetH Tryd.prog laidTab w) false (World.doorLaid Tryd.prog 400 os) #[] 8 rfl (World.shaped_of_RefB (by kernel_rfl) (by kernel_rfl)) (by kernel_rfl) (by kernel_rfl) (by kernel_rfl) (door_met os _)) ?_
  intro W base args ds gs before hval0 hW _ hsz hL _
  have hval : ∀ (j : Nat) t v, Tryd.f6.params[j]? = some t → args[j]? = some v → Value.okWide Tryd.prog W .any base t v := hval0
  have hW' := hW
  obtain ⟨p, q, hA0, hV, rfl, hfz, hnd⟩ := hW
  have hA : DataW.TrodAll enc Tryd.prog W 0 (fun _ => true) true Tryd.f6.params.toList args.toList ds p := hA0
  rw [Tryd.params6] at hA hval
  obtain ⟨rfl, rfl, rfl⟩ := trodAll_none hA
  obtain ⟨rfl, rfl⟩ := trodVars_none hV
  obtain ⟨hT, hpos⟩ := of_laid hL
  clear hA0 hval0
  simp only [List.append_nil] at hW'
  refine (walk  W  hT hpos).mono fun e W' ⟨he, hg⟩ => ?_
  subst he
  exact ⟨_, rfl, post_kept (pa := []) (pv := []) hW' hg (fun _ _ _ => (trodAll_cons_mk (shut_bool Tryd.underlying4 _) trodAll_mk0)) (fun sp hsp => rfl) (fun _ _ => rfl) rfl
    (ok_one (by kernel_rfl) rfl (okWide_bool_mk Tryd.underlying4 _))⟩

theorem over : Rows.FixKnownSaid :=
  OpenClaim.holds_of_wide 6 Tryd.f6 rfl rfl rfl rfl rfl rfl rfl ⟨rfl, rfl, rfl, rfl, rfl⟩ rfl rfl rfl rfl rfl (by kernel_rfl) Tryd.func6 (by kernel_rfl)
    (of_decide_eq_true (by kernel_rfl)) (by unfold Func.isWrapper; first | (rw [if_pos (by decide +kernel)]; kernel_rfl) | (rw [if_neg (by decide +kernel)]; exact ⟨rfl, rfl⟩))
    (fun os started H enc _ => lifted os started H enc)

theorem proved : Rows.FixKnownCardSaid :=
  Claim7.holds_tied_plain_at .later [] [.data] true _ false
    over (fun _ h => by cases h) (by kernel_rfl) (fun _ h => by cases h) fixKnown_row_tie rfl ⟨rfl, rfl⟩ (by kernel_rfl) rfl
    (fun f fn hf hfn => by
      obtain rfl : f = 6 := Option.some.inj ((show Tryd.prog.funcNamed "crossroads/crossroadslaw3.FixKnown" = some 6 by kernel_rfl).symm.trans hf) |>.symm
      obtain rfl : fn = Tryd.f6 := (Option.some.inj (Tryd.func6.symm.trans hfn)).symm
      exact ⟨by kernel_rfl, fun j t ht => by
        rw [Tryd.params6] at ht
        have hm : t ∈ ([] : List TypeId) := by simpa using Array.mem_of_getElem? ht
        have hall : (([] : List TypeId).all fun u => !Tryd.prog.wantsStandIn u) = true := by kernel_rfl
        exact (show Tryd.prog.wantsStandIn t = false by simpa using List.all_eq_true.1 hall t hm)⟩)
    (by kernel_rfl)
#print axioms proved
end Go.Proofs.YtchbdnifcckloaaDoor.fixKnown
