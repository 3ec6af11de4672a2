/-
  made of package term: a node of constants alone is their constant, any other is added.
-/
import Derived.Test.YtgbmiphaabeodaaDoorTermC
namespace Go.Proofs.YtgbmiphaabeodaaDoor
open Go.ChangeShapes Go.WideShapes Go.ChangeAt Go.RowKit
set_option linter.unusedVariables false
attribute [local go_sem ↓] Go.wp_at_zero Go.wp_at_succ

def AllC (ns : List Nd) (n : Nd) (k : Nat) : Prop := ∀ j, j < k → isT ns (pt n j) → isC ns (pt n j)
theorem allC_of {ns : List Nd} {n : Nd} (h : (isT ns n.a → isC ns n.a) ∧ (isT ns n.b → isC ns n.b) ∧ (isT ns n.c → isC ns n.c)) : AllC ns n 3 := fun j hj => by
  rcases pt_cases n hj with ⟨_, e⟩ | ⟨_, e⟩ | ⟨_, e⟩ <;> rw [e]
  · exact h.1
  · exact h.2.1
  · exact h.2.2
/-- A node that made may be asked for. -/
structure MkN (ns : List Nd) (n : Nd) : Prop where
  i : n.op = 16 → ¬ isC ns n.a
  e : n.op = 17 → wdt ns n.a < n.w
  c : n.op = 18 → n.w < wdt ns n.a
theorem norm_of {ns : List Nd} {n : Nd} (h : ¬ AllC ns n 3) (k : MkN ns n) : NormN ns n := ⟨fun _ e => h (allC_of e), k.i, k.e, k.c⟩
structure MadeP (ns : List Nd) (n : Nd) (x : Int) (ns' : List Nd) : Prop where
  t : isT ns' x
  w : wdt ns' x = n.w
  v : ∀ env, V ns' env x = nv (wdt ns) (V ns env) env n
  i : Iv ns' x = niv (Iv ns) n
  c : AllC ns n 3 → isC ns' x
  e : ¬ AllC ns n 3 → nd ns' x = some n
  k : AllC ns n 3 → nd ns' x = some ⟨1, n.w, low n.w (nv (wdt ns) (V ns []) [] n), 0, 0, 0⟩
  n : NV ns ns'
  o : One ns ns' x
theorem wf_of_ar {w : World} {ab : Nat} {ns : List Nd} {foot : Nat → Prop} (h : Ar w ab ns foot) : WF ns := h.wf
theorem made_add {ns ns' : List Nd} {n : Nd} {x : Int} (hwf' : WF ns') (he : ∃ l, ns' = ns ++ l) (hn : NW ns n) (hx : nd ns' x = some n) (hnv : NV ns ns') (ho : One ns ns' x) (hc : ¬ AllC ns n 3) : MadeP ns n x ns' := by
  obtain ⟨l, rfl⟩ := he
  have hp := nd_pos hx
  refine ⟨⟨hp.1, hp.2.1⟩, wdt_of hx, fun env => ?_, ?_, fun h => absurd h hc, fun _ => hx, fun h => absurd h hc, hnv, ho⟩
  · rw [V_of hwf' env hx]
    exact nv_congr (wdt_append hn.pa.2) (V_append hwf' env hn.pa.2) (V_append hwf' env hn.pb.2) (V_append hwf' env hn.pc.2)
  · rw [Iv_of hwf' hx]
    unfold niv
    rw [Iv_append hwf' hn.pa.2, Iv_append hwf' hn.pb.2, Iv_append hwf' hn.pc.2]
theorem const_V {ns : List Nd} (hwf : WF ns) {p : Int} (h : isT ns p → isC ns p) (env env' : List Int) : V ns env p = V ns env' p := by
  by_cases ht : isT ns p
  · obtain ⟨m, hm, h1⟩ := h ht
    rw [V_const hwf env hm h1, V_const hwf env' hm h1]
  · rw [V_none env ht, V_none env' ht]
theorem const_I {ns : List Nd} (hwf : WF ns) {p : Int} (h : isT ns p → isC ns p) : Iv ns p = 0 := by
  by_cases ht : isT ns p
  · obtain ⟨m, hm, h1⟩ := h ht
    have N := (NW.nd hwf hm).one h1
    rw [Iv_of hwf hm]
    unfold niv
    have e2 : ¬ m.op = 2 := by omega
    rw [if_neg e2, N.2.1, N.2.2.1, N.2.2.2, Iv_none (by unfold isT; omega)]
    rfl
  · exact Iv_none ht
theorem allC_parts {ns : List Nd} {n : Nd} (h : AllC ns n 3) : (isT ns n.a → isC ns n.a) ∧ (isT ns n.b → isC ns n.b) ∧ (isT ns n.c → isC ns n.c) :=
  ⟨h 0 (by decide), h 1 (by decide), h 2 (by decide)⟩
theorem made_const {ns ns' : List Nd} {n : Nd} {x : Int} (hwf : WF ns) (hwf' : WF ns') (hn : NW ns n) (h3 : 3 ≤ n.op) (hc : AllC ns n 3) (hx : nd ns' x = some ⟨1, n.w, low n.w (nv (wdt ns) (V ns []) [] n), 0, 0, 0⟩) (hnv : NV ns ns') (ho : One ns ns' x) : MadeP ns n x ns' := by
  have hp := nd_pos hx
  obtain ⟨ca, cb, cc⟩ := allC_parts hc
  have hb := nv_bd hwf [] hn
  have e1 : ¬ n.op = 1 := by omega
  have e2 : ¬ n.op = 2 := by omega
  refine ⟨⟨hp.1, hp.2.1⟩, (wdt_of hx).trans rfl, fun env => ?_, ?_, fun _ => ⟨_, hx, rfl⟩, fun h => absurd hc h, fun _ => hx, hnv, ho⟩
  · rw [V_const hwf' env hx rfl]
    show low n.w _ = _
    rw [show low n.w (nv (wdt ns) (V ns []) [] n) = nv (wdt ns) (V ns []) [] n from Int.emod_eq_of_lt hb.1 hb.2]
    simp only [nv, if_neg e1, if_neg e2, const_V hwf ca [] env, const_V hwf cb [] env, const_V hwf cc [] env]
  · rw [const_I hwf' (fun _ => ⟨_, hx, rfl⟩)]
    unfold niv
    rw [if_neg e2, const_I hwf ca, const_I hwf cb, const_I hwf cc]
    rfl
theorem Step.has {w w' w0 : World} {ab : Nat} {ns ns' : List Nd} {foot foot' : Nat → Prop} {g : Nat} {t : TypeId} {cs : Array Value} (h : Step w ab ns foot w' ns' foot') (hg : Has w0 g t cs) (he : w.heap = w0.heap) (hn : ¬ foot g) : Has w' g t cs :=
  Has.kept (by unfold Has at hg ⊢; rw [he]; exact hg) h.kept hn
/-- What stood ahead of a reckoning stands behind it, where the reckoning is new. -/
theorem below_alike {w Wv W w2 W2 : World} {B eb ab : Nat} {ns : List Nd} {foot : Nat → Prop} {A : Option Addr} {cap : Nat} {env : List Int} {mo' : Option Nat} (h : Below B w Wv) (hp : EvPost W eb ab ns foot A cap env none w2 mo') (heb : B ≤ eb) (hs : B ≤ Wv.heap.size)
    (hW : W.heap = Wv.heap) (o1 : W.os = Wv.os) (t1 : W.tape = Wv.tape) (p1 : W.output = Wv.output) (h2 : W2.heap = w2.heap) (o2 : W2.os = w2.os) (t2 : W2.tape = w2.tape) (p2 : W2.output = w2.output) : Below B w W2 := by
  have a1 : Below B Wv W := ⟨o1, t1, p1, by rw [hW]; exact Nat.le_refl _, fun k _ => by rw [hW]⟩
  have a2 : Below B W w2 := hp.kept.below (by rw [hW]; exact hs) (fun k hk hm => by
    rcases hm with e | e
    · omega
    · cases e)
  have a3 : Below B w2 W2 := ⟨o2, t2, p2, by rw [h2]; exact Nat.le_refl _, fun k _ => by rw [h2]⟩
  exact ((h.trans a1).trans a2).trans a3
theorem made_any (w : World) (ab : Nat) (ns : List Nd) (foot : Nat → Prop) (n : Nd) (h : Ar w ab ns foot) (hl : ns.length < 65536) (hn : NW ns n) (hmk : MkN ns n) (h3 : 3 ≤ n.op) :
    Calls Tryd.prog 38 #[ptr ab, n.ag] w fun e w' => ∃ x : Int, e = .returned (.tuple #[.int .i64 x, .int .i64 0]) ∧ Got w ab ns foot w' (MadeP ns n x) := by
  have H := Lib.hid h
  have HW := Lib.hid h.wf
  have HN := Lib.hid hn
  have HL := Lib.hid hl
  have H3 := Lib.hid h3
  have HMK := Lib.hid hmk
  have HP := Lib.hid (parts_any n (w.alloc (.cells #[.int .i64 n.op, .int .i64 n.w, .int .u16 n.val, .int .i64 n.a, .int .i64 n.b, .int .i64 n.c] 85)))
  have HBX := Lib.hid (Has.new w 85 #[.int .i64 n.op, .int .i64 n.w, .int .u16 n.val, .int .i64 n.a, .int .i64 n.b, .int .i64 n.c])
  clear h hl hn h3 hmk
  go_enter Tryd.func38, Tryd.ntmps38
  go_wp2_with fail
  refine HP.out.mono ?_
  rintro e w1 ⟨rfl, hb⟩
  have HA1 := Lib.hid ((H.out.alloc _).below hb)
  have HX1 := Lib.hid (HBX.out.same (hb.block _ HBX.out.lt))
  have HB1 := Lib.hid (((Below.refl w.heap.size w).alloc (Nat.le_refl _) _).trans (hb.mono (by simp)))
  have HSZ1 := Lib.hid (show w.heap.size ≤ w1.heap.size from HB1.out.size)
  clear hb
  go_wp2_with fail
  go_loopw [13] (fun i wr => ∃ k : Nat, k ≤ 3 ∧ i = .int .i64 k ∧ Below w1.heap.size w1 wr ∧ AllC ns n k) (fun i _ => 3 - (intOf i).toNat)
  case atStart => exact ⟨0, by omega, rfl, Below.refl _ _, fun j hj => absurd hj (by omega)⟩
  case round =>
    obtain ⟨k, hk, rfl, hbr, hall⟩ := hrel
    have HBR := Lib.hid hbr
    have HAR := Lib.hid (HA1.out.below hbr)
    have HXR := Lib.hid (HX1.out.same (hbr.block _ HX1.out.lt))
    have HALL := Lib.hid hall
    clear hbr hall
    by_cases hlt : k < 3
    · have hix := idx_pt n hlt
      have HC := Lib.hid (fun (hp : isT ns (pt n k) → isC ns (pt n k)) => (show AllC ns n (k + 1) from fun j hj => by
        by_cases e : j < k
        · exact HALL.out j e
        · obtain rfl : j = k := by omega
          exact hp))
      have HNC := Lib.hid (fun (hp : ¬ (isT ns (pt n k) → isC ns (pt n k))) => (show ¬ AllC ns n 3 from fun ha => hp (ha k hlt)))
      generalize pt n k = p at hix HC HNC
      by_cases ht : isT ns p
      · by_cases hc : isC ns p
        · obtain ⟨m, hm, h1⟩ := hc
          have HK := Lib.hid (known_yes wr ab ns foot p m HAR.out hm h1)
          have HY := fun W (hW : Below wr.heap.size wr W) => Lib.hid (has_yes W ab ns foot p (HAR.out.below hW) ht)
          have HC' := Lib.hid (HC.out (fun _ => ⟨m, hm, h1⟩))
          clear ht hm h1 HC HNC
          go_wp2_with (first | (go_at_call 15; refine HK.out.mono ?_; rintro e w2 ⟨rfl, hb2⟩; have HB2 := Lib.hid hb2; clear hb2) | (go_at_call 25; refine (HY _ HB2.out).out.mono ?_; rintro e w' ⟨rfl, rfl⟩))
          go_roundw
          case rel => exact ⟨k + 1, by omega, by go_num, HBR.out.trans (HB2.out.mono HBR.out.size), HC'.out⟩
          case measure => simp [intOf]; omega
        · have HK := Lib.hid (known_no wr ab ns foot p HAR.out hc)
          have HY := fun W (hW : Below wr.heap.size wr W) => Lib.hid (has_yes W ab ns foot p (HAR.out.below hW) ht)
          have HNC' := Lib.hid (HNC.out (fun h => hc (h ht)))
          obtain ⟨nv, iv, mv, vs, hvars, hat⟩ := HAR.out
          have HVARS := Lib.hid hvars
          have HNE : Hid (n.op ≠ 2) := fun e => by have := H3.out; omega
          have HADD := fun W (hW : Below wr.heap.size wr W) => Lib.hid (add_any W ab ns foot nv iv mv vs n (hat.keep (fun b hb => hW.block _ (hat.lt b hb)) hW.size) HN.out (norm_of HNC'.out HMK.out) HL.out)
          clear hvars
          have x0 : wr.cell? ⟨w.heap.size, 0, none⟩ = some (.int .i64 n.op) := HXR.out.cell 0
          have x1 : wr.cell? ⟨w.heap.size, 1, none⟩ = some (.int .i64 n.w) := HXR.out.cell 1
          have x2 : wr.cell? ⟨w.heap.size, 2, none⟩ = some (.int .u16 n.val) := HXR.out.cell 2
          have x3 : wr.cell? ⟨w.heap.size, 3, none⟩ = some (.int .i64 n.a) := HXR.out.cell 3
          have x4 : wr.cell? ⟨w.heap.size, 4, none⟩ = some (.int .i64 n.b) := HXR.out.cell 4
          have x5 : wr.cell? ⟨w.heap.size, 5, none⟩ = some (.int .i64 n.c) := HXR.out.cell 5
          have hxl : w.heap.size < wr.heap.size := HXR.out.lt
          clear ht hc HC HNC
          go_wp2_with (first | (go_at_call 15; refine HK.out.mono ?_; rintro e w2 ⟨rfl, hb2⟩; have HB2 := Lib.hid hb2; have hcell2 : ∀ o, w2.cell? ⟨w.heap.size, o, none⟩ = wr.cell? ⟨w.heap.size, o, none⟩ := (fun o => hb2.cell (p := ⟨w.heap.size, o, none⟩) hxl); clear hb2) | (go_at_call 25; refine (HY _ HB2.out).out.mono ?_; rintro e w' ⟨rfl, rfl⟩) | (go_at_call 36; refine (HADD _ HB2.out).out.mono ?_; rintro e w3 ⟨x, rfl, hp⟩; have HPP := Lib.hid hp; clear hp))
          go_ret2
          obtain ⟨ns', foot', hst, hx, hnv, hone⟩ := HPP.out.got HVARS.out HNE.out
          exact ⟨x, rfl, ns', foot', Step.behind (HB1.out.trans ((HBR.out.trans (HB2.out.mono HBR.out.size)).mono HSZ1.out)) hst, made_add hst.ar.wf hst.ext HN.out hx hnv hone HNC'.out⟩
      · have HK := Lib.hid (known_no wr ab ns foot p HAR.out (fun ⟨m, hm, _⟩ => ht ⟨(nd_pos hm).1, (nd_pos hm).2.1⟩))
        have HY := fun W (hW : Below wr.heap.size wr W) => Lib.hid (has_no W ab ns foot p (HAR.out.below hW) ht)
        have HC' := Lib.hid (HC.out (fun h => absurd h ht))
        clear ht HC HNC
        go_wp2_with (first | (go_at_call 15; refine HK.out.mono ?_; rintro e w2 ⟨rfl, hb2⟩; have HB2 := Lib.hid hb2; clear hb2) | (go_at_call 25; refine (HY _ HB2.out).out.mono ?_; rintro e w' ⟨rfl, rfl⟩))
        go_roundw
        case rel => exact ⟨k + 1, by omega, by go_num, HBR.out.trans (HB2.out.mono HBR.out.size), HC'.out⟩
        case measure => simp [intOf]; omega
    · obtain rfl : k = 3 := by omega
      have E0 : Ev (wr.alloc (.cells #[ptr ab, .slice none 0 0, .int .i64 0, .map none] 73)) wr.heap.size ab ns foot none 0 [] none :=
        ⟨HAR.out.alloc _, ⟨0, Has.new wr _ _⟩, fun hf => by have := HAR.out.lt _ hf; omega, ⟨(fun i v hv => by simp at hv), (fun a ha => by cases ha), (fun v hv => by cases hv), (by simp)⟩, (fun a ha => by cases ha), (fun b hb => by cases hb)⟩
      have HE0 := Lib.hid E0
      have HRK := fun (W : World) (hW : Ev W wr.heap.size ab ns foot none 0 [] none) => Lib.hid (reckon_any wr.heap.size ab ns foot none 0 [] n HN.out H3.out HW.out (value_all _ _ _ _ _ _ _ HW.out _) (value_all _ _ _ _ _ _ _ HW.out _) (value_all _ _ _ _ _ _ _ HW.out _) W none hW)
      have hbd := nv_bd HW.out [] HN.out
      have hpw := pw_bd HN.out.mw
      have HB := Lib.hid hbd
      have hv0 := hbd.1
      have hv1 : nv (wdt ns) (V ns []) [] n ≤ 65535 := by omega
      have HCST := fun (W : World) (hW : Ar W ab ns foot) => Lib.hid (const_yes W ab ns foot n.w _ hW HL.out HN.out.mw hv0 hv1)
      generalize hval : nv (wdt ns) (V ns []) [] n = val at HRK HCST
      have HVAL := Lib.hid hval
      have hxl : w.heap.size < wr.heap.size := HXR.out.lt
      have HXV := Lib.hid (HXR.out.same (w' := wr.alloc (.cells #[ptr ab, .slice none 0 0, .int .i64 0, .map none] 73)) (alloc_other HXR.out.lt))
      have x0 : wr.cell? ⟨w.heap.size, 0, none⟩ = some (.int .i64 n.op) := HXR.out.cell 0
      have x1 : wr.cell? ⟨w.heap.size, 1, none⟩ = some (.int .i64 n.w) := HXR.out.cell 1
      have x2 : wr.cell? ⟨w.heap.size, 2, none⟩ = some (.int .u16 n.val) := HXR.out.cell 2
      have x3 : wr.cell? ⟨w.heap.size, 3, none⟩ = some (.int .i64 n.a) := HXR.out.cell 3
      have x4 : wr.cell? ⟨w.heap.size, 4, none⟩ = some (.int .i64 n.b) := HXR.out.cell 4
      have x5 : wr.cell? ⟨w.heap.size, 5, none⟩ = some (.int .i64 n.c) := HXR.out.cell 5
      have HNF : Hid (¬ foot w.heap.size) := fun hf => by have := H.out.lt _ hf; omega
      have HBL := Lib.hid (((HB1.out.trans (HBR.out.mono HSZ1.out)).alloc (by have := HXR.out.lt; omega) (.cells #[ptr ab, .slice none 0 0, .int .i64 0, .map none] 73)))
      have HEB : Hid (w.heap.size ≤ wr.heap.size) := Nat.le_of_lt HXR.out.lt
      have HSV := Lib.hid (show w.heap.size ≤ (wr.alloc (.cells #[ptr ab, .slice none 0 0, .int .i64 0, .map none] 73)).heap.size by have := HXR.out.lt; simp; omega)
      have hne : Hid (w.heap.size ≠ wr.heap.size) := fun e => by omega
      clear hval hbd hpw hv0 hv1 E0
      go_wp2_with fail
      go_region_held3 (fun w' => w'.cell? ⟨w.heap.size, 0, none⟩ = some (.int .i64 n.op) ∧ w'.cell? ⟨w.heap.size, 1, none⟩ = some (.int .i64 n.w) ∧ w'.cell? ⟨w.heap.size, 2, none⟩ = some (.int .u16 n.val) ∧ w'.cell? ⟨w.heap.size, 3, none⟩ = some (.int .i64 n.a) ∧ w'.cell? ⟨w.heap.size, 4, none⟩ = some (.int .i64 n.b) ∧ w'.cell? ⟨w.heap.size, 5, none⟩ = some (.int .i64 n.c)) (go_keep) (first | (go_at_call 44; refine (HRK _ (by exact HE0.out.alike rfl)).out.mono ?_; rintro e w2 ⟨rfl, mo2, hp⟩; have hB := hp.has2 HXV.out rfl hne.out (fun e => by cases e); have k0 : w2.cell? ⟨w.heap.size, 0, none⟩ = some (.int .i64 n.op) := hB.cell 0; have k1 : w2.cell? ⟨w.heap.size, 1, none⟩ = some (.int .i64 n.w) := hB.cell 1; have k2 : w2.cell? ⟨w.heap.size, 2, none⟩ = some (.int .u16 n.val) := hB.cell 2; have k3 : w2.cell? ⟨w.heap.size, 3, none⟩ = some (.int .i64 n.a) := hB.cell 3; have k4 : w2.cell? ⟨w.heap.size, 4, none⟩ = some (.int .i64 n.b) := hB.cell 4; have k5 : w2.cell? ⟨w.heap.size, 5, none⟩ = some (.int .i64 n.c) := hB.cell 5; have HPP := Lib.hid hp; have HB2 := Lib.hid hB; clear hp hB) | (go_at_call 17; refine (HCST _ (by exact (HPP.out.ev.alike rfl).ar)).out.mono ?_; rintro e w3 ⟨x, rfl, ns', foot', hst, hx, hnv, hone⟩; have hB3 := hst.has HB2.out rfl HNF.out; have y0 : w3.cell? ⟨w.heap.size, 0, none⟩ = some (.int .i64 n.op) := hB3.cell 0; have y1 : w3.cell? ⟨w.heap.size, 1, none⟩ = some (.int .i64 n.w) := hB3.cell 1; have y2 : w3.cell? ⟨w.heap.size, 2, none⟩ = some (.int .u16 n.val) := hB3.cell 2; have y3 : w3.cell? ⟨w.heap.size, 3, none⟩ = some (.int .i64 n.a) := hB3.cell 3; have y4 : w3.cell? ⟨w.heap.size, 4, none⟩ = some (.int .i64 n.b) := hB3.cell 4; have y5 : w3.cell? ⟨w.heap.size, 5, none⟩ = some (.int .i64 n.c) := hB3.cell 5; have HST := Lib.hid (Step.behind (by exact below_alike HBL.out HPP.out HEB.out HSV.out rfl rfl rfl rfl rfl rfl rfl rfl) hst); have HX := Lib.hid hx; have HNV := Lib.hid hnv; have HONE := Lib.hid hone; clear hst hx hB3 hnv hone))
      go_wp2
      go_ret2
      exact ⟨x, rfl, ns', foot', HST.out, made_const HW.out HST.out.ar.wf HN.out H3.out HALL.out (by rw [HVAL.out]; exact HX.out) HNV.out HONE.out⟩
end Go.Proofs.YtgbmiphaabeodaaDoor
