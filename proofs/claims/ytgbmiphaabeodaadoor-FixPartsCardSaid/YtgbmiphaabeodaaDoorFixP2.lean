/-
  partly of package fix: some of a term's variables have numbers.
-/
import Derived.Test.YtgbmiphaabeodaaDoorFixO2
import Derived.Test.YtgbmiphaabeodaaDoorFixP1
import Derived.Test.YtgbmiphaabeodaaDoorFixW
import Derived.Test.YtgbmiphaabeodaaDoorFixS
import Derived.Test.YtgbmiphaabeodaaDoorTermN
namespace Go.Proofs.YtgbmiphaabeodaaDoor
open Go.ChangeShapes Go.WideShapes Go.ChangeAt Go.RowKit Go.Maps
set_option linter.unusedVariables false
attribute [local go_sem ↓] Go.wp_at_zero Go.wp_at_succ

theorem part1_any (w : World) (sb ab p q cap : Nat) (nsS ns : List Nd) (footS foot : Nat → Prop) (A : Option Addr) (ls : List Int) (hp : w.cell? ⟨p, 0, none⟩ = some (ptr sb)) (hq : w.cell? ⟨q, 0, none⟩ = some (.slice A ls.length cap)) (hcap : ls.length ≤ cap) (hc : cap ≤ 9223372036854775807)
    (I : ∀ W : World, Below w.heap.size w W → Has W w.heap.size 81 (ga fun _ => none) → OvIn W sb ab w.heap.size nsS ns footS foot (fun _ => none) A ls) :
    Calls Tryd.prog 49 #[ptr ab, ptr p, ptr q] w fun e w' => ∃ y : Int, e = .returned (.tuple #[.int .i64 y, .int .i64 0]) ∧ ∃ (W : World) (ns' : List Nd) (foot' : Nat → Prop) (mb : Nat) (f : Int → Option Int), Below w.heap.size w W ∧ OvR W w' ab mb nsS ns ns' foot foot' (fun _ => none) ls ls.length y f := by
  have HI := Lib.hid I
  have zg := zero_given
  clear I
  go_enter Tryd.func49, Tryd.ntmps49
  go_wp2_with fail
  refine (over_any _ sb ab _ nsS ns footS foot _ A ls cap (HI.out _ (by exact (Below.refl _ _).alloc (Nat.le_refl _) _) (Has.new w _ _)) hcap hc).mono ?_
  rintro e w1 ⟨y, ns', foot', mb, f, rfl, hr⟩
  have HR := Lib.hid hr
  clear hr
  go_wp2_with fail
  go_ret2
  exact ⟨y, rfl, _, ns', foot', mb, f, (Below.refl _ _).alloc (Nat.le_refl _) _, HR.out⟩
/-! ### The list of a term's terms as over wants it -/
theorem take_mem {ls : List Int} (hs : ls.Pairwise (· < ·)) {k : Nat} {z p : Int} (hz : ls[k]? = some z) (hp : p ∈ ls) (hlt : p < z) : p ∈ ls.take k := by
  obtain ⟨j, hj⟩ := List.getElem?_of_mem hp
  have hjl := (List.getElem?_eq_some_iff.1 hj).1
  have hkl := (List.getElem?_eq_some_iff.1 hz).1
  have hjk : j < k := by
    rcases Nat.lt_trichotomy j k with h | h | h
    · exact h
    · subst h; rw [hj] at hz; injection hz with e; omega
    · have := List.pairwise_iff_getElem.1 hs k j hkl hjl h
      rw [(List.getElem?_eq_some_iff.1 hz).2, (List.getElem?_eq_some_iff.1 hj).2] at this
      omega
  exact List.mem_iff_getElem?.2 ⟨j, by rw [List.getElem?_take_of_lt hjk]; exact hj⟩
theorem Wl.pre {ns : List Nd} {x : Int} {ls : List Int} (h : Wl ns x ls) (hwf : WF ns) (k : Nat) (z : Int) (n : Nd) (hz : ls[k]? = some z) (hn : nd ns z = some n) : InL (ls.take k) n.a ∧ InL (ls.take k) n.b ∧ InL (ls.take k) n.c := by
  obtain ⟨a, b, c⟩ := h.cl z (List.mem_of_getElem? hz) n hn
  obtain ⟨k1, k2, k3, _, _, _⟩ := hwf.below hn
  exact ⟨a.imp (fun e => e) fun m => take_mem h.lt hz m k1, b.imp (fun e => e) fun m => take_mem h.lt hz m k2, c.imp (fun e => e) fun m => take_mem h.lt hz m k3⟩
theorem Wl.last {ns : List Nd} {x : Int} {ls : List Int} (h : Wl ns x ls) : ∃ j, ls.length = j + 1 ∧ ls[j]? = some x := by
  obtain ⟨j, hj⟩ := List.getElem?_of_mem h.mem
  have hjl := (List.getElem?_eq_some_iff.1 hj).1
  refine ⟨j, ?_, hj⟩
  rcases Nat.lt_or_ge (j + 1) ls.length with hl | hl
  · have := List.pairwise_iff_getElem.1 h.lt j (j + 1) hjl hl (by omega)
    rw [(List.getElem?_eq_some_iff.1 hj).2] at this
    have := h.all _ (List.getElem_mem hl)
    omega
  · omega
/-- What Some answers where it makes a term. -/
structure PtP (K : Nat) (w w' : World) (ab : Nat) (ns ns' : List Nd) (foot foot' : Nat → Prop) (x : Int) (g : Nat → Option Int) (y : Int) : Prop where
  st : MStep K w ab ns foot w' ns' foot'
  t : isT ns' y
  e : tr ns' y = (tr ns x).sub g
  new : ∀ i : Nat, ns.length ≤ i → i < ns'.length → ∃ z : Int, 1 ≤ z ∧ z ≤ x ∧ Reach ns x z ∧ tr ns' ((i : Int) + 1) = (tr ns z).sub g
theorem sub_none {ns : List Nd} (hwf : WF ns) (hN : NormA ns) (z : Int) : (tr ns z).sub (fun _ => none) = tr ns z := Tr.sub_same _ (tr_wf hwf z) (tr_nrm hwf hN z) fun _ _ _ => rfl
theorem PtP.of {K : Nat} {w w2 w3 W w' : World} {ab sb mb mb2 : Nat} {ns nsS ns' : List Nd} {foot footS foot' : Nat → Prop} {x y y2 : Int} {g : Nat → Option Int} {ls ls2 : List Int} {f f2 : Int → Option Int}
    (hwl : Wl ns x ls) (hK : ls.length ≤ K) (R1 : OvR w2 w3 sb mb ns [] nsS (fun k => k = sb) footS g ls ls.length y f) (hwl2 : Wl nsS y ls2) (b : Below w.heap.size w W) (R2 : OvR W w' ab mb2 nsS ns ns' foot foot' (fun _ => none) ls2 ls2.length y2 f2) : PtP K w w' ab ns ns' foot foot' x g y2 := by
  have hS := R1.st.ar
  obtain ⟨j1, l1, a1⟩ := hwl.last
  obtain ⟨t1, e1⟩ := R1.last1 j1 x l1 a1
  obtain ⟨j2, l2, a2⟩ := hwl2.last
  obtain ⟨t2, e2⟩ := R2.last1 j2 y l2 a2
  have hlen := R1.st.len
  have n2 := hwl2.len
  have hy := t1.2
  simp at hlen
  refine ⟨(R2.st.behind b).more (by omega), t2, by rw [e2, sub_none hS.wf hS.nrm, e1], fun i h1 h2 => ?_⟩
  obtain ⟨z, hz, ez⟩ := R2.new i h1 h2
  obtain ⟨z1, z2, _⟩ := hwl2.all z hz
  obtain ⟨z', hz', ez'⟩ := R1.new (z - 1).toNat (Nat.zero_le _) (by omega)
  obtain ⟨k1, k2, k3⟩ := hwl.all z' hz'
  refine ⟨z', k1, k2, k3, ?_⟩
  rw [ez, sub_none hS.wf hS.nrm, ← ez']
  congr 1
  omega
theorem ovin1 {W : World} {ab sb gb lb : Nat} {ns : List Nd} {foot : Nat → Prop} {g : Nat → Option Int} {x : Int} {ls : List Int} (hA : Ar W ab ns foot) (hS : Ar W sb [] (fun k => k = sb)) (hsb : ∀ b, foot b → b ≠ sb) (hg : Has W gb 81 (ga g)) (hgs : gb ≠ sb) (hok : GOk g)
    (hn : NumsAt .i64 W (some ⟨lb, 0, none⟩) ls) (hls : lb ≠ sb) (hwl : Wl ns x ls) (hx : isT ns x) : OvIn W ab sb gb ns [] foot (fun k => k = sb) g (some ⟨lb, 0, none⟩) ls :=
  ⟨hA, hS, hsb, hg, hgs, hok, hn, (fun a ha => by injection ha with ha; subst ha; exact hls), fun z hz => (by have := hwl.all z hz; have := hx.2; exact ⟨by omega, by omega⟩), hwl.pre hA.wf, (by have := hwl.len; have := hx.2; have := hA.sz; simp; omega), fun i j m m' hi => (by simp at hi)⟩
theorem ovin2 {w W w2 w3 : World} {ab sb mb gb lb : Nat} {ns nsS : List Nd} {foot footS : Nat → Prop} {g : Nat → Option Int} {y : Int} {ls ls2 : List Int} {f : Int → Option Int} (h : Ar w ab ns foot) (hb : Below w.heap.size w W) (R1 : OvR w2 w3 sb mb ns [] nsS (fun k => k = sb) footS g ls ls.length y f) (hS : Ar W sb nsS footS)
    (hsb : w.heap.size ≤ sb) (hw2 : w.heap.size ≤ w2.heap.size) (hg : Has W gb 81 (ga fun _ => none)) (hgb : w.heap.size ≤ gb) (hn : NumsAt .i64 W (some ⟨lb, 0, none⟩) ls2) (hlb : w.heap.size ≤ lb) (hwl : Wl nsS y ls2) (hy : isT nsS y) (hroom : ns.length + ls.length ≤ 65536) : OvIn W sb ab gb nsS ns footS foot (fun _ => none) (some ⟨lb, 0, none⟩) ls2 := by
  have hlen := R1.st.len
  have n2 := hwl.len
  have hy2 := hy.2
  simp at hlen
  refine ⟨hS, h.below hb, fun b k1 k2 => ?_, hg, fun k => ?_, (fun i v hv => by cases hv), hn, (fun a ha => by injection ha with ha; subst ha; exact fun k => by have := h.lt _ k; simp at this; omega), fun z hz => (by have := hwl.all z hz; exact ⟨by omega, by omega⟩), hwl.pre hS.wf, by omega, fun i j m m' hi hj ho ho' hv => ?_⟩
  · have := h.lt b k2
    rcases R1.st.foot_ b k1 with k | k
    · have k' : b = sb := k; omega
    · omega
  · have := h.lt gb k; omega
  · rcases R1.vars j m' hj ho' with k | ⟨j', k⟩
    · simp at k
    · exact congrArg Nd.w (h.one_var hi k ho ho' hv)
set_option maxHeartbeats 1600000 in
set_option maxRecDepth 100000 in
theorem partly_any (w : World) (ab gb K : Nat) (ns : List Nd) (foot : Nat → Prop) (x : Int) (g : Nat → Option Int) (h : Ar w ab ns foot) (hx : isT ns x) (hl : ns.length < 65536) (hK : ∀ ls, Wl ns x ls → ls.length ≤ K) (hroom : ns.length + K ≤ 65536) (hg : Has w gb 81 (ga g)) (hok : GOk g) :
    Calls Tryd.prog 31 #[ptr ab, .int .i64 x, ptr gb] w fun e w' => ∃ y : Int, e = .returned (.tuple #[.int .i64 y, .int .i64 0]) ∧ ∃ (ns' : List Nd) (foot' : Nat → Prop), PtP K w w' ab ns ns' foot foot' x g y := by
  have HH := Lib.hid h
  have HX := Lib.hid hx
  have HG := Lib.hid hg
  have HOK := Lib.hid hok
  have HRO := Lib.hid hroom
  have HK := Lib.hid hK
  have HL := Lib.hid hl
  have HNW := Lib.hid (new_any w)
  have HWI := Lib.hid (fun (W : World) (b : Below w.heap.size w W) => fwithin_any W ab ns foot x (h.below b) hx)
  have hmf : ∀ (fn : Fn) (first cap : Array Value) (w : World), (Instr.makeFunc fn first cap).run Tryd.prog w = .ok (.func fn first cap) w := fun _ _ _ _ => rfl
  clear h hx hl hroom hg hok hK
  go_enter Tryd.func31, Tryd.ntmps31
  go_wp2_with fail
  refine HNW.out.mono ?_
  rintro e w1 ⟨rfl, hs, hb⟩
  have HS1 := Lib.hid hs
  have HB1 := Lib.hid hb
  clear hs hb HNW
  go_wp2_with fail
  have HBX := Lib.hid (Has.new w1 26 #[ptr w.heap.size])
  have BA : Hid (Below w.heap.size w (w1.alloc (.cells #[ptr w.heap.size] 26))) := HB1.out.alloc HB1.out.size _
  have HS0 := HS1
  have HS1 : Hid (Ar (w1.alloc (.cells #[ptr w.heap.size] 26)) w.heap.size [] (fun k => k = w.heap.size)) := HS1.out.alloc _
  have hlt1 : w.heap.size < w1.heap.size := HS0.out.lt _ rfl
  have hlt2 : w.heap.size < (w1.alloc (.cells #[ptr w.heap.size] 26)).heap.size := HS1.out.lt _ rfl
  have f0 : (w1.alloc (.cells #[ptr w.heap.size] 26)).cell? ⟨w1.heap.size, 0, none⟩ = some (ptr w.heap.size) := HBX.out.cell 0
  generalize w1.alloc (.cells #[ptr w.heap.size] 26) = w1a at *
  go_region_held3 (fun w' => w'.cell? ⟨w1.heap.size, 0, none⟩ = some (ptr w.heap.size)) (go_keep) (first
    | (go_at_call 34; refine (HWI.out _ (by exact below_alike3 BA.out rfl rfl rfl rfl)).mono ?_; rintro e w2 ⟨ls, lb, lcap, rfl, hwl, hnums, hb, hlc, hcc, hge⟩; have hb : Below w1a.heap.size w1a w2 := below_step (Below.refl _ w1a) hb rfl rfl rfl rfl; have f0 : w2.cell? ⟨w1.heap.size, 0, none⟩ = some (ptr w.heap.size) := (HBX.out.same (hb.block _ HBX.out.lt)).cell 0; have HBX := Lib.hid (HBX.out.same (hb.block _ HBX.out.lt)); have BA : Hid (Below w.heap.size w w2) := BA.out.trans (hb.mono BA.out.size); have HS1 : Hid (Ar w2 w.heap.size [] (fun k => k = w.heap.size)) := HS1.out.below hb; have HNU := Lib.hid hnums; have HGE : Hid (w1a.heap.size ≤ lb) := hge; have HWL := Lib.hid hwl; have HOV := Lib.hid (ovin1 (g := g) (gb := gb) (HH.out.below BA.out) HS1.out (fun b hb2 e => (by have := HH.out.lt b hb2; omega)) (HG.out.same (BA.out.block _ HG.out.lt)) (by have := HG.out.lt; omega) HOK.out hnums (by have := HGE.out; omega) hwl HX.out); clear hwl hnums hb hge)
    | (go_at_call 47; refine (over_any _ ab w.heap.size gb ns [] foot _ g _ ls lcap HOV.out hlc hcc).mono ?_; rintro e w3 ⟨y, nsS, footS, mb, f, rfl, hr⟩; have f0 : w3.cell? ⟨w1.heap.size, 0, none⟩ = some (ptr w.heap.size) := (HBX.out.kept hr.st.kept (fun e => (by have e' : w1.heap.size = w.heap.size := e; omega))).cell 0; have R1 := Lib.hid hr; clear hr))
  obtain ⟨j1, l1, a1⟩ := HWL.out.last
  have HT1 := Lib.hid (R1.out.last1 j1 x l1 a1)
  have HW2 := Lib.hid (fwithin_any w3 w.heap.size nsS footS y R1.out.st.ar HT1.out.1)
  have BB3 : Hid (Below w.heap.size w w3) := BA.out.trans (R1.out.st.kept.below BA.out.size (fun k hk e => by have e' : k = w.heap.size := e; omega))
  have HBX := Lib.hid (HBX.out.kept R1.out.st.kept (fun e => by have e' : w1.heap.size = w.heap.size := e; omega))
  clear l1 a1 hlc hcc HOV HS1 HS0 HNU
  go_wp2_with fail
  refine HW2.out.mono ?_
  rintro e w4 ⟨ls2, lb2, lcap2, rfl, hwl2, hnums2, hb4, hlc2, hcc2, hge2⟩
  have HNU := Lib.hid hnums2
  have HWL2 := Lib.hid hwl2
  have HGE2 := Lib.hid hge2
  have HB4 := Lib.hid hb4
  have HLC := Lib.hid (And.intro hlc2 hcc2)
  have HLN : Hid (ls2.length + ns.length ≤ 65536 ∧ ls2.length ≤ ls.length ∧ ns.length + ls.length ≤ 65536) := by
    have h1 := hwl2.len
    have h2 := HT1.out.1.2
    have h3 := R1.out.st.len
    have h4 := HK.out _ HWL.out
    have h5 := HRO.out
    simp at h3
    exact ⟨by omega, by omega, by omega⟩
  clear hwl2 hnums2 hb4 hge2 hlc2 HW2
  go_wp2_with fail
  have B6 : Hid (Below w3.heap.size w3 (w4.alloc (.cells #[.slice (some ⟨lb2, 0, none⟩) ls2.length lcap2] 88))) := HB4.out.alloc HB4.out.size _
  have BW6 : Hid (Below w.heap.size w (w4.alloc (.cells #[.slice (some ⟨lb2, 0, none⟩) ls2.length lcap2] 88))) := BB3.out.trans (B6.out.mono BB3.out.size)
  have HNU6 : Hid (NumsAt .i64 (w4.alloc (.cells #[.slice (some ⟨lb2, 0, none⟩) ls2.length lcap2] 88)) (some ⟨lb2, 0, none⟩) ls2) := HNU.out.keep ((Below.refl _ _).alloc (Nat.le_refl _) _)
  have HP6 := Lib.hid (part1_any (w4.alloc (.cells #[.slice (some ⟨lb2, 0, none⟩) ls2.length lcap2] 88)) w.heap.size ab w1.heap.size w4.heap.size lcap2 nsS ns footS foot _ ls2 ((HBX.out.same (B6.out.block _ HBX.out.lt)).cell 0) ((Has.new w4 88 #[.slice (some ⟨lb2, 0, none⟩) ls2.length lcap2]).cell 0) HLC.out.1 HLC.out.2
    (fun W b hz => ovin2 HH.out (BW6.out.trans (b.mono BW6.out.size)) R1.out ((R1.out.st.ar.below B6.out).below b) (Nat.le_refl _) BA.out.size hz BW6.out.size (HNU6.out.keep b) (Nat.le_trans BB3.out.size HGE2.out) HWL2.out HT1.out.1 HLN.out.2.2))
  refine (whole_partly _ ab w1.heap.size w4.heap.size ns foot _ _ (HH.out.below BW6.out) HL.out (by omega) (by have := HLN.out.1; omega) HP6.out).mono ?_
  rintro e w' ⟨y2, rfl, W, ns', foot', mb2, f2, hbw, hr2⟩
  have HPT := Lib.hid (PtP.of HWL.out (HK.out _ HWL.out) R1.out HWL2.out (BW6.out.trans (hbw.mono BW6.out.size)) hr2)
  clear hbw hr2 HP6
  go_wp2_with fail
  go_ret2
  exact ⟨y2, rfl, ns', foot', HPT.out⟩
end Go.Proofs.YtgbmiphaabeodaaDoor
