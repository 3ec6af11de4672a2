/-
  Parts of the proof, joined: DpllMw.
-/
import Derived.Test.YtpmdnbdmocdngaaGreatMh14

namespace Go.Proofs.YtpmdnbdmocdngaaGreat
open Go.ChangeShapes Go.WideShapes Go.ChangeAt Go.RowKit
set_option linter.unusedVariables false

section
variable {B : Nat} {τ : Nat → Nat} {w : World} {p n k : Nat} {dd : Sd} {c1 : Cl}
set_option maxHeartbeats 6400000 in
set_option linter.unusedSimpArgs false in
/-- Where the claim's first literal is the one that is gone. -/
theorem move_one {d0 : Sd} {c0 : Cl} (h : Sr B τ w p n d0) (L : Len n d0) (hk : d0.cls[k]? = some c0) (hkb : k < 2147483648) (hls : ∀ l ∈ c0.ls, l < 2 * n) (hlb : c0.ls.length ≤ 131072) {fr gone first : Nat} (hfr : c0.fr = (fr : Int)) (hfr1 : 2 ≤ fr) (hfr2 : fr ≤ c0.ls.length) (h0 : c0.ls[0]? = some gone) (h1 : c0.ls[1]? = some first) (hne : first ≠ gone) (hFb : ∀ q, (d0.F q).length ≤ 4294967296) (hgq : ∀ q ∈ c0.ls, q ≠ first → q ≠ gone → q ≠ d0.gq) (hnd : c0.ls.Nodup)
    (hc1 : c1 = { c0 with ls := (c0.ls.set 0 first).set 1 gone }) (hdd : dd = { d0 with cls := d0.cls.set k c1 }) :
    Calls Tryz.prog 127 #[ptr p, .int .i32 (k : Int), .int .i32 (gone : Int)] w (MvPost B τ w p n dd k c1 gone first) := by
  have hn := L.nb
  have hfn := hls first (List.mem_of_getElem? h1)
  have hgn := hls gone (List.mem_of_getElem? h0)
  obtain ⟨ga, capa, gl, capl, ca⟩ := h.claim hk (by omega)
  have hkl0 := (List.getElem?_eq_some_iff.1 hk).1
  have hcl : c1.ls.length = c0.ls.length := by rw [hc1]; simp
  have hdl : dd.cls.length = d0.cls.length := by rw [hdd]; simp
  have hkl : k < dd.cls.length := by rw [hdl]; exact hkl0
  have HL := Lib.hid (show Len n dd by rw [hdd]; exact ⟨L.nb, L.wo, L.dp, L.wy, L.lk, L.sc, L.se, L.co, L.tr, L.ma, L.nu⟩)
  have HWO := Lib.hid HL.out.wo
  have HLS := Lib.hid (show ∀ l ∈ c1.ls, l < 2 * n by
    intro l hl
    rw [hc1] at hl
    rcases List.mem_or_eq_of_mem_set hl with hl | rfl
    · rcases List.mem_or_eq_of_mem_set hl with hl | rfl
      · exact hls l hl
      · exact hfn
    · exact hgn)
  have HK := Lib.hid (show dd.cls[k]? = some c1 by rw [hdd]; exact List.getElem?_set_self hkl0)
  have H0 := Lib.hid (show c1.ls[0]? = some first by rw [hc1]; show ((c0.ls.set 0 first).set 1 gone)[0]? = _; rw [List.getElem?_set_ne (by decide)]; exact List.getElem?_set_self (by omega))
  have H1 := Lib.hid (show c1.ls[1]? = some gone by rw [hc1]; exact List.getElem?_set_self (by rw [List.length_set]; omega))
  have HFR := Lib.hid (show c1.fr = (fr : Int) by rw [hc1]; exact hfr)
  have HGQ := Lib.hid (show ∀ j q, 2 ≤ j → c1.ls[j]? = some q → q ≠ dd.gq from fun j q hj hq => by
    have e : c0.ls[j]? = some q := by
      rw [hc1] at hq
      have hq : ((c0.ls.set 0 first).set 1 gone)[j]? = some q := hq
      rwa [List.getElem?_set_ne (by omega), List.getElem?_set_ne (by omega)] at hq
    rw [hdd]; exact hgq q (List.mem_of_getElem? e) (nd_ne hnd (by omega) e h1) (nd_ne hnd (by omega) e h0))
  have HFb := Lib.hid (show ∀ q, (dd.F q).length ≤ 4294967296 by rw [hdd]; exact hFb)
  have P1 := h.put_lit ca hk (i := 0) (by omega) first
  have CA1 := ca.put_lit (i := 0) (x := first) (by omega)
  have hk1 : ({ d0 with cls := d0.cls.set k { c0 with ls := c0.ls.set 0 first } } : Sd).cls[k]? = some { c0 with ls := c0.ls.set 0 first } := List.getElem?_set_self hkl0
  have P2 := P1.1.put_lit CA1 hk1 (i := 1) (by show 1 < (c0.ls.set 0 first).length; rw [List.length_set]; omega) gone
  have CA2 := CA1.put_lit (i := 1) (x := gone) (by show 1 < (c0.ls.set 0 first).length; rw [List.length_set]; omega)
  have R2 := Lib.hid (show Sr B τ ((w.setCell ⟨gl, 0, none⟩ (.int .i32 (first : Int))).setCell ⟨gl, 1, none⟩ (.int .i32 (gone : Int))) p n dd by
    have := P2.1
    simp only [List.set_set] at this
    rw [hdd, hc1]; exact this)
  have T2 := Lib.hid (P1.2.trans P2.2)
  have C2 := Lib.hid (show Cla τ ((w.setCell ⟨gl, 0, none⟩ (.int .i32 (first : Int))).setCell ⟨gl, 1, none⟩ (.int .i32 (gone : Int))) p dd.cls.length k c1 ga capa gl capl by rw [hdl, hc1]; exact CA2)
  have fa : w.cell? ⟨p, 0, none⟩ = some (.slice (some ⟨ga, 0, none⟩) dd.cls.length capa) := by rw [hdl]; exact ca.head
  have ale : dd.cls.length ≤ capa := by rw [hdl]; exact ca.le
  have amx := ca.mx
  have fl : w.cell? ⟨ga, k * 3, none⟩ = some (.slice (some ⟨gl, 0, none⟩) c1.ls.length capl) := by rw [hcl]; exact ca.lit
  have x0' := ca.cell 0 gone h0
  have x1' := ca.cell 1 first h1
  have za' := ca.alt
  have zl' := ca.llt
  have lf' := ca.lfree
  have lle : c1.ls.length ≤ capl := by rw [hcl]; exact ca.lle
  have k0 : (0 : Int) ≤ (k : Int) := by omega
  have k1 : (k : Int) < (dd.cls.length : Int) := by omega
  have ll1 : (1 : Int) < (c1.ls.length : Int) := by omega
  have ll0 : 0 < c1.ls.length := by omega
  have hne0 : ¬ c1.ls = [] := fun e => by rw [e] at ll0; exact Nat.lt_irrefl _ ll0
  have hne2 : ¬ (first : Int) = (gone : Int) := by omega
  have zp' := h.plt
  have npl : p ≠ gl := fun e => by have h1 := ca.prole; have h2 := ca.lrole; rw [e, h2] at h1; omega
  have ngl' : ga ≠ gl := fun e => by have h1 := ca.lrole; have h2 := ca.arole; rw [e, h1] at h2; omega
  rw [← hcl] at hlb hfr2
  clear h L hk hls h0 h1 hfr hFb ca hc1 hdd hcl hdl P1 P2 CA1 CA2 hk1 hgq hnd
  go_enter Tryz.func127, Tryz.ntmps127
  go_wp2_with fail
  go_region
  have R := Lib.hid (R2.out.alike (W := ((w.setCell ⟨gl, 0, none⟩ (.int .i32 (first : Int))).setCell ⟨gl, 1, none⟩ (.int .i32 (gone : Int))).drew) rfl rfl rfl rfl)
  have T := Lib.hid (T2.out.alike (W := ((w.setCell ⟨gl, 0, none⟩ (.int .i32 (first : Int))).setCell ⟨gl, 1, none⟩ (.int .i32 (gone : Int))).drew) rfl rfl rfl rfl)
  have CA := Lib.hid (C2.out.alike (W := ((w.setCell ⟨gl, 0, none⟩ (.int .i32 (first : Int))).setCell ⟨gl, 1, none⟩ (.int .i32 (gone : Int))).drew) (by simpa [World.setCell] using zp') rfl rfl rfl rfl)
  clear R2 T2 C2 fa fl x0' x1' za' zl' lf' zp' npl ngl' ll1 ll0 hne0 ale lle k0 k1
  generalize ((w.setCell ⟨gl, 0, none⟩ (.int .i32 (first : Int))).setCell ⟨gl, 1, none⟩ (.int .i32 (gone : Int))).drew = W1 at *
  have x0 := CA.out.cell 0 first H0.out
  have k0 : (0 : Int) ≤ (k : Int) := by omega
  have k1 : (k : Int) < (dd.cls.length : Int) := by omega
  have ale := CA.out.le
  -- W1, R, T, CA, HK, x0 (l[0] = first), hy: wo first
  obtain ⟨g2, c2, a2⟩ := R.out.at_wo (by rw [HWO.out]; omega)
  obtain ⟨yf, hyf⟩ : ∃ y, dd.wo[first]? = some y := ⟨_, List.getElem?_eq_getElem (by rw [HWO.out]; exact hfn)⟩
  have f2 := a2.len_wo.1
  have l2 := a2.len_wo.2
  have k2 := a2.cap
  have xf := a2.wo hyf
  have z2 := a2.lt
  have zp := R.out.plt
  have zl := CA.out.llt
  have hfw : first < dd.wo.length := by rw [HWO.out]; exact hfn
  have b1 : (0 : Int) ≤ (first : Int) := by omega
  have b2 : (first : Int) < (dd.wo.length : Int) := by omega
  have fl := CA.out.lit
  have fa := CA.out.head
  have xfr : W1.cell? ⟨ga, k * 3 + 2, none⟩ = some (.int .i64 (fr : Int)) := by rw [← HFR.out]; exact CA.out.fr
  have za := CA.out.alt
  have lle := CA.out.lle
  have lmx := CA.out.lmx
  have HYF := Lib.hid hyf
  clear a2 hyf
  by_cases hy1 : yf = 1
  · subst hy1
    have HN := Lib.hid (show ∀ W : World, W.heap = W1.heap → W.os = W1.os → W.tape = W1.tape → W.output = W1.output → MvPost B τ w p n dd k c1 gone first (.returned (.tuple #[.int .i32 (first : Int), .bool false])) W from fun W e1 e2 e3 e4 => .inl ⟨rfl, R.out.alike e1 e2 e3 e4, T.out.alike e1 e2 e3 e4, .inl HYF.out⟩)
    go_wp2_with fail
    go_quiet (fail)
    go_wp2_with fail
    go_ret2
    exact HN.out _ rfl rfl rfl rfl
  · have hy2 : (yf == 1) = false := beq_eq_false_iff_ne.2 hy1
    have CL1 := Lib.hid (fun (W : World) (b : Below W1.heap.size W1 W) => left_any (R.out.below b) HL.out (lo := fr) (hi := c1.ls.length) (fun i q hq => (b.cell (p := ⟨gl, i, none⟩) zl).trans (CA.out.cell i q hq)) (Nat.lt_of_lt_of_le zl b.size) lle lmx HLS.out hfr2 (Nat.le_refl _) hlb)
    have CL2 := Lib.hid (fun (W : World) (b : Below W1.heap.size W1 W) => show Calls Tryz.prog 170 #[ptr p, .slice (some ⟨gl, 0, none⟩) c1.ls.length capl, .int .i64 2, .int .i64 (fr : Int)] W (LfPost W dd.wo c1.ls 2 fr) from left_any (R.out.below b) HL.out (lo := 2) (hi := fr) (fun i q hq => (b.cell (p := ⟨gl, i, none⟩) zl).trans (CA.out.cell i q hq)) (Nat.lt_of_lt_of_le zl b.size) lle lmx HLS.out hfr1 hfr2 hlb)
    go_wp2_with fail
    go_quiet (fail)
    have B1 : Hid (Below W1.heap.size W1 (W1.drewN nq)) := Below.draws (Below.refl _ _) nq
    go_wp2_with fail
    (with_reducible refine (CL1.out _ B1.out).mono ?_)
    rintro e W2 ⟨hb, hr⟩
    have B2 := Lib.hid (B1.out.trans (hb.mono B1.out.size))
    clear hb
    rcases hr with ⟨rfl, hall1⟩ | ⟨j, q, yq, rfl, hj1, hj3, hjq, hyq, hy0⟩
    · have HA1 := Lib.hid hall1
      clear hall1
      have fl' := (B2.out.cell (p := ⟨ga, k * 3, none⟩) za).trans fl
      have xfr' := (B2.out.cell (p := ⟨ga, k * 3 + 2, none⟩) za).trans xfr
      have za' := Nat.lt_of_lt_of_le za B2.out.size
      go_wp2_with fail
      (with_reducible refine (CL2.out _ B2.out).mono ?_)
      rintro e W4 ⟨hb, hr⟩
      have B3 := Lib.hid (B2.out.trans (hb.mono B2.out.size))
      clear hb fl' xfr' za'
      rcases hr with ⟨rfl, hall2⟩ | ⟨j, q, yq, rfl, hj1, hj3, hjq, hyq, hy0⟩
      · have HN : Hid (MvPost B τ w p n dd k c1 gone first (.returned (.tuple #[.int .i32 (first : Int), .bool false])) W4) := .inl ⟨rfl, R.out.below B3.out, T.out.trans (Stp.of_below τ B3.out), .inr fun i q h2 hq => by
          by_cases hi : i < fr
          · exact hall2 i q h2 hi hq
          · exact HA1.out i q (by omega) (by have := (List.getElem?_eq_some_iff.1 hq).1; exact this) hq⟩
        have x0' : W4.cell? ⟨gl, 0, none⟩ = some (.int .i32 (first : Int)) := (B3.out.cell (p := ⟨gl, 0, none⟩) zl).trans x0
        have zl' : gl < W4.heap.size := Nat.lt_of_lt_of_le zl B3.out.size
        clear hall2
        go_wp2_with fail
        go_ret2
        exact HN.out
      · have R := Lib.hid (R.out.below B3.out)
        have T := Lib.hid (T.out.trans (Stp.of_below τ B3.out))
        have CA := Lib.hid (CA.out.step (R := fun _ => False) zp (Step.of_below _ τ B3.out) id id id)
        have x0 : W4.cell? ⟨gl, 0, none⟩ = some (.int .i32 (first : Int)) := (B3.out.cell (p := ⟨gl, 0, none⟩) zl).trans x0
        have fl := CA.out.lit
        have zl := CA.out.llt
        have zp := R.out.plt
        have fa := CA.out.head
        clear CL1 CL2 B1 B2 B3 HA1 za xf z2 f2 xfr
        have f2 : True := trivial
        have xfr : True := trivial
        have hj2 : 2 ≤ j := by omega
        have hjl : j < c1.ls.length := by omega
        have hqn := HLS.out q (List.mem_of_getElem? hjq)
        have HF := Lib.hid (show ∀ e w', MvYes B τ w p n dd k c1 gone first e w' → MvPost B τ w p n dd k c1 gone first e w' from fun e w' h => .inr h)
        have P1 := R.out.put_fr CA.out HK.out (j : Int)
        have CA1 := CA.out.put_fr (j : Int)
        have hk1 : ({ dd with cls := dd.cls.set k { c1 with fr := (j : Int) } } : Sd).cls[k]? = some { c1 with fr := (j : Int) } := List.getElem?_set_self hkl
        have P2 := P1.1.put_lit CA1 hk1 (i := 1) (by show 1 < c1.ls.length; omega) q
        have CA2 := CA1.put_lit (i := 1) (x := q) (by show 1 < c1.ls.length; omega)
        have hk2 : ({ dd with cls := (dd.cls.set k { c1 with fr := (j : Int) }).set k { c1 with fr := (j : Int), ls := c1.ls.set 1 q } } : Sd).cls[k]? = some { c1 with fr := (j : Int), ls := c1.ls.set 1 q } := List.getElem?_set_self (by rw [List.length_set]; exact hkl)
        have P3 := P2.1.put_lit CA2 hk2 (i := j) (by show j < (c1.ls.set 1 q).length; rw [List.length_set]; omega) gone
        have CA3 := CA2.put_lit (i := j) (x := gone) (by show j < (c1.ls.set 1 q).length; rw [List.length_set]; omega)
        have R3 := Lib.hid (show Sr B τ (((W4.setCell ⟨ga, k * 3 + 2, none⟩ (.int .i64 (j : Int))).setCell ⟨gl, 1, none⟩ (.int .i32 (q : Int))).setCell ⟨gl, j, none⟩ (.int .i32 (gone : Int))) p n (Sd.moved dd k c1 j q gone) by
          have := P3.1
          simp only [List.set_set] at this
          exact this)
        have T3 := Lib.hid (((T.out.trans P1.2).trans P2.2).trans P3.2)
        have HC3 := Lib.hid CA3
        have xj : W4.cell? ⟨gl, j, none⟩ = some (.int .i32 (q : Int)) := CA.out.cell j q hjq
        have x1l : W4.cell? ⟨gl, 1, none⟩ = some (.int .i32 (gone : Int)) := CA.out.cell 1 gone H1.out
        have lf := CA.out.lfree
        have af := CA.out.afree
        have za := CA.out.alt
        have ngl : gl ≠ ga := fun e => by have h1 := CA.out.lrole; have h2 := CA.out.arole; rw [e, h2] at h1; omega
        have ll1 : (1 : Int) < (c1.ls.length : Int) := by omega
        have ll0 : 0 < c1.ls.length := by omega
        have hne0 : ¬ c1.ls = [] := fun e => by rw [e] at ll0; exact Nat.lt_irrefl _ ll0
        have j0 : (0 : Int) ≤ (j : Int) := by omega
        have j1 : (j : Int) < (c1.ls.length : Int) := by omega
        have nj1 : ¬ j = 1 := by omega
        have jm1 : ((j : Int) == -1) = false := beq_eq_false_iff_ne.2 (by omega)
        have x2' : W4.cell? ⟨ga, k * 3 + 2, none⟩ = some (.int .i64 c1.fr) := CA.out.fr
        have HJ := Lib.hid (And.intro hjq (And.intro hyq hy0))
        have HGJ := Lib.hid (show q ≠ (Sd.moved dd k c1 j q gone).gq from HGQ.out j q hj2 hjq)
        clear P1 P2 P3 CA1 CA2 CA3 hk1 hk2 hjq hyq hy0
        go_wp2_with fail
        go_region
        have R4 := Lib.hid (R3.out.alike (W := (((W4.setCell ⟨ga, k * 3 + 2, none⟩ (.int .i64 (j : Int))).setCell ⟨gl, 1, none⟩ (.int .i32 (q : Int))).setCell ⟨gl, j, none⟩ (.int .i32 (gone : Int))).drew) rfl rfl rfl rfl)
        have T4 := Lib.hid (T3.out.alike (W := (((W4.setCell ⟨ga, k * 3 + 2, none⟩ (.int .i64 (j : Int))).setCell ⟨gl, 1, none⟩ (.int .i32 (q : Int))).setCell ⟨gl, j, none⟩ (.int .i32 (gone : Int))).drew) rfl rfl rfl rfl)
        have C4 := Lib.hid (HC3.out.alike (W := (((W4.setCell ⟨ga, k * 3 + 2, none⟩ (.int .i64 (j : Int))).setCell ⟨gl, 1, none⟩ (.int .i32 (q : Int))).setCell ⟨gl, j, none⟩ (.int .i32 (gone : Int))).drew) (by simpa [World.setCell] using zp) rfl rfl rfl rfl)
        generalize (((W4.setCell ⟨ga, k * 3 + 2, none⟩ (.int .i64 (j : Int))).setCell ⟨gl, 1, none⟩ (.int .i32 (q : Int))).setCell ⟨gl, j, none⟩ (.int .i32 (gone : Int))).drew = W3 at *
        clear R T CA R3 T3 HC3 xj x1l lf af za x2' x0 fa fl f2 xfr zp zl
        have zp := R4.out.plt
        have R4 := Lib.hid (R4.out.alike (W := W3.drew) rfl rfl rfl rfl)
        have T4 := Lib.hid (T4.out.alike (W := W3.drew) rfl rfl rfl rfl)
        have C4 := Lib.hid (C4.out.alike (W := W3.drew) R4.out.plt rfl rfl rfl rfl)
        have HEND := Lib.hid (show ∀ (W5 : World) (τ' : Nat → Nat), Sr B τ' W5 p n { Sd.moved dd k c1 j q gone with F := fun r => if r = q then dd.F q ++ [(k, first)] else dd.F r } → Stp τ τ' W3.drew W5 → ∀ W, W.heap = W5.heap → W.os = W5.os → W.tape = W5.tape → W.output = W5.output → MvPost B τ w p n dd k c1 gone first (.returned (.tuple #[.int .i32 (first : Int), .bool true])) W from fun W5 τ' r t W e1 e2 e3 e4 => HF.out _ _ ⟨τ', j, q, _, rfl, hj2, HJ.out.1, HJ.out.2.1, HJ.out.2.2, r.alike e1 e2 e3 e4, (T4.out.trans t).alike e1 e2 e3 e4⟩)
        obtain ⟨gw, AW, cw, hW⟩ := R4.out.wat hqn
        have HW := Lib.hid hW
        have w1 := hW.head
        have w2 : W3.drew.cell? ⟨gw, q, none⟩ = some (.slice AW (dd.F q).length cw) := hW.at_
        have w3 := hW.wfree
        have w4 := hW.wlt
        have y1 : W3.drew.cell? ⟨gl, 1, none⟩ = some (.int .i32 (q : Int)) := C4.out.cell 1 q (by show ((c1.ls.set 1 q).set j gone)[1]? = _; rw [List.getElem?_set_ne nj1]; exact List.getElem?_set_self (by omega))
        have y0 : W3.drew.cell? ⟨gl, 0, none⟩ = some (.int .i32 (first : Int)) := C4.out.cell 0 first (by show ((c1.ls.set 1 q).set j gone)[0]? = _; rw [List.getElem?_set_ne (by omega), List.getElem?_set_ne (by omega)]; exact H0.out)
        have zl := C4.out.llt
        have ngw : gl ≠ gw := fun e => by have h1 := C4.out.lrole; have h2 := hW.wrole; rw [e, h2] at h1; omega
        have FIN := Lib.hid (R4.out.fin_wat hW hqn HGJ.out (k, first))
        have HFL := HFb.out q
        have q0 : (0 : Int) ≤ (q : Int) := by omega
        have q1 : (q : Int) < ((2 * n : Nat) : Int) := by omega
        have HRO := Lib.hid (show ∀ g, Value.ownBlock (.slice AW (dd.F q).length cw) = some g → g ≠ gl from fun g hg e => by have h1 := hW.role g hg; have h2 := C4.out.lrole; rw [e, h2] at h1; omega)
        obtain ⟨i0, hi0, hz0, hz1, hz2⟩ := info_parts infoWat
        have HI := Lib.hid (show _ ∧ _ ∧ _ ∧ _ from ⟨hi0, hz0, hz1, hz2⟩)
        have HO := Lib.hid hW.own
        clear hW hi0 hz0 hz1 hz2
        obtain ⟨N, hN⟩ : ∃ N, 2 * n = N := ⟨_, rfl⟩
        rw [hN] at w1 q1
        obtain ⟨M, hM⟩ : ∃ M, (dd.F q).length = M := ⟨_, rfl⟩
        rw [hM] at w2 HFL
        have HN := Lib.hid hN
        have HM := Lib.hid hM
        clear hN hM
        have c1d : W3.drew.cell? ⟨p, 1, none⟩ = some (.slice (some ⟨gw, 0, none⟩) N N) := w1
        have KB := Lib.hid (show ∀ X, Below W3.drew.heap.size W3.drew X → X.cell? ⟨p, 1, none⟩ = some (.slice (some ⟨gw, 0, none⟩) N N) ∧ X.cell? ⟨gl, 0, none⟩ = some (.int .i32 (first : Int)) ∧ X.cell? ⟨gl, 1, none⟩ = some (.int .i32 (q : Int)) ∧ X.cell? ⟨gw, q, none⟩ = some (.slice AW M cw) from fun X b => ⟨(b.cell (lt_of_cell c1d)).trans c1d, (b.cell (lt_of_cell y0)).trans y0, (b.cell (lt_of_cell y1)).trans y1, (b.cell (lt_of_cell w2)).trans w2⟩)
        go_wp2_with fail
        refine region_last (S := fun w' => w'.cell? ⟨p, 1, none⟩ = some (.slice (some ⟨gw, 0, none⟩) N N) ∧ w'.cell? ⟨gl, 0, none⟩ = some (.int .i32 (first : Int)) ∧ w'.cell? ⟨gl, 1, none⟩ = some (.int .i32 (q : Int)) ∧ w'.cell? ⟨gw, q, none⟩ = some (.slice AW M cw)) (by kernel_rfl) (by rfl) (by rfl) (by kernel_rfl) ⟨c1d, y0, y1, w2⟩ (fun hHeld => ?_)
        generalize W3.drew = w0 at *
        have KA := Lib.hid (KB.out (w0.alloc (.cells #[.int .i32 (k : Int), .int .i32 (first : Int)] 211)) ((Below.refl _ _).alloc (Nat.le_refl _) _))
        simp only [List.pop_toArray, List.dropLast_cons_cons, List.dropLast_singleton]
        refine wpAnyH_take (i := 0) (v := ?v45) rfl (by kernel_rfl) (by kernel_rfl) (by kernel_rfl) (fun _ _ _ h => h) (Or.inl ⟨by rfl, ?hy45⟩) (by assumption) ?rest45
        case hy45 => (intro w hSw; (try dsimp only at hSw); go_simp; try with_reducible rfl)
        (try simp only [Act.put, List.setIfInBounds_toArray, List.set_cons_zero, List.set_cons_succ])
        refine wpAnyH_take (i := 1) (v := ?v46) rfl (by kernel_rfl) (by kernel_rfl) (by kernel_rfl) (fun _ _ _ h => h) (Or.inl ⟨by rfl, ?hy46⟩) (by assumption) ?rest46
        case hy46 => (intro w hSw; (try dsimp only at hSw); go_simp; try with_reducible rfl)
        (try simp only [Act.put, List.setIfInBounds_toArray, List.set_cons_zero, List.set_cons_succ])
        refine wpAnyH_take (i := 2) (v := ?v47) rfl (by kernel_rfl) (by kernel_rfl) (by kernel_rfl) (fun _ _ _ h => h) (Or.inl ⟨by rfl, ?hy47⟩) (by assumption) ?rest47
        case hy47 => (intro w hSw; (try dsimp only at hSw); go_simp; try with_reducible rfl)
        (try simp only [Act.put, List.setIfInBounds_toArray, List.set_cons_zero, List.set_cons_succ])
        refine wpAnyH_take (i := 3) (v := ?v48) rfl (by kernel_rfl) (by kernel_rfl) (by kernel_rfl) (fun _ _ _ h => h) (Or.inl ⟨by rfl, ?hy48⟩) (by assumption) ?rest48
        case hy48 => (intro w hSw; (try dsimp only at hSw); go_simp; try with_reducible rfl)
        (try simp only [Act.put, List.setIfInBounds_toArray, List.set_cons_zero, List.set_cons_succ])
        refine wpAnyH_take (i := 4) (v := ?v49) rfl (by kernel_rfl) (by kernel_rfl) (by kernel_rfl) (fun _ _ _ h => h) (Or.inl ⟨by rfl, ?hy49⟩) (by assumption) ?rest49
        case hy49 => (intro w hSw; (try dsimp only at hSw); go_simp; try with_reducible rfl)
        (try simp only [Act.put, List.setIfInBounds_toArray, List.set_cons_zero, List.set_cons_succ])
        refine wpAnyH_take (i := 5) (v := ?v50) rfl (by kernel_rfl) (by kernel_rfl) (by kernel_rfl) (fun _ _ _ h => h) (Or.inl ⟨by rfl, ?hy50⟩) (by assumption) ?rest50
        case hy50 => (intro w hSw; (try dsimp only at hSw); go_simp; try with_reducible rfl)
        (try simp only [Act.put, List.setIfInBounds_toArray, List.set_cons_zero, List.set_cons_succ])
        refine wpAnyH_take (i := 6) (v := ?v51) rfl (by kernel_rfl) (by kernel_rfl) (by kernel_rfl) (fun _ _ _ h => h) (Or.inl ⟨by rfl, ?hy51⟩) (by assumption) ?rest51
        case hy51 => (intro w hSw; (try dsimp only at hSw); go_simp; try with_reducible rfl)
        (try simp only [Act.put, List.setIfInBounds_toArray, List.set_cons_zero, List.set_cons_succ])
        refine wpAnyH_take (i := 7) (v := ?v52) rfl (by kernel_rfl) (by kernel_rfl) (by kernel_rfl) (fun _ _ _ h => h) (Or.inl ⟨by rfl, ?hy52⟩) (by assumption) ?rest52
        case hy52 => (intro w hSw; (try dsimp only at hSw); go_simp; try with_reducible rfl)
        (try simp only [Act.put, List.setIfInBounds_toArray, List.set_cons_zero, List.set_cons_succ])
        refine wpAnyH_take (i := 8) (v := ?v53) rfl (by kernel_rfl) (by kernel_rfl) (by kernel_rfl) (fun _ _ _ h => h) (Or.inl ⟨by rfl, ?hy53⟩) (by assumption) ?rest53
        case hy53 => (intro w hSw; (try dsimp only at hSw); go_simp; try with_reducible rfl)
        (try simp only [Act.put, List.setIfInBounds_toArray, List.set_cons_zero, List.set_cons_succ])
        refine wpAnyH_take (i := 9) (v := ?v54) rfl (by kernel_rfl) (by kernel_rfl) (by kernel_rfl) (fun _ _ _ h => h) (Or.inl ⟨by rfl, ?hy54⟩) (by assumption) ?rest54
        case hy54 => (intro w hSw; (try dsimp only at hSw); go_simp; try with_reducible rfl)
        (try simp only [Act.put, List.setIfInBounds_toArray, List.set_cons_zero, List.set_cons_succ])
        refine wpAnyH_take (i := 10) (v := ?v55) rfl (by kernel_rfl) (by kernel_rfl) (by kernel_rfl) (fun _ _ _ h => h) (Or.inl ⟨by rfl, ?hy55⟩) (by assumption) ?rest55
        case hy55 => (intro w hSw; (try dsimp only at hSw); go_simp; try with_reducible rfl)
        (try simp only [Act.put, List.setIfInBounds_toArray, List.set_cons_zero, List.set_cons_succ])
        refine wpAnyH_take (i := 11) (v := ?v56) rfl (by kernel_rfl) (by kernel_rfl) (by kernel_rfl) (fun _ _ _ h => h) (Or.inl ⟨by rfl, ?hy56⟩) (by assumption) ?rest56
        case hy56 => (intro w hSw; (try dsimp only at hSw); go_simp; try with_reducible rfl)
        (try simp only [Act.put, List.setIfInBounds_toArray, List.set_cons_zero, List.set_cons_succ])
        refine wpAnyH_take (i := 12) (v := ?v57) rfl (by kernel_rfl) (by kernel_rfl) (by kernel_rfl) (fun _ _ _ h => h) (Or.inl ⟨by rfl, ?hy57⟩) (by assumption) ?rest57
        case hy57 => (intro w hSw; (try dsimp only at hSw); go_simp; try with_reducible rfl)
        (try simp only [Act.put, List.setIfInBounds_toArray, List.set_cons_zero, List.set_cons_succ])
        refine wpAnyH_take (i := 13) (v := ?v58) rfl (by kernel_rfl) (by kernel_rfl) (by kernel_rfl) (fun _ _ _ h => h) (Or.inl ⟨by rfl, ?hy58⟩) (by assumption) ?rest58
        case hy58 => (intro w hSw; (try dsimp only at hSw); go_simp; try with_reducible rfl)
        (try simp only [Act.put, List.setIfInBounds_toArray, List.set_cons_zero, List.set_cons_succ])
        refine wpAnyH_take (i := 14) (v := ?v59) rfl (by kernel_rfl) (by kernel_rfl) (by kernel_rfl) (fun _ _ _ h => h) (Or.inl ⟨by rfl, ?hy59⟩) (by assumption) ?rest59
        case hy59 => (intro w hSw; (try dsimp only at hSw); go_simp; try with_reducible rfl)
        (try simp only [Act.put, List.setIfInBounds_toArray, List.set_cons_zero, List.set_cons_succ])
        refine wpAnyH_take (i := 15) (v := ?v60) rfl (by kernel_rfl) (by kernel_rfl) (by kernel_rfl) (fun _ _ _ h => h) (Or.inl ⟨by rfl, ?hy60⟩) (by assumption) ?rest60
        case hy60 => (intro w hSw; (try dsimp only at hSw); go_simp; try with_reducible rfl)
        (try simp only [Act.put, List.setIfInBounds_toArray, List.set_cons_zero, List.set_cons_succ])
        refine wpAnyH_take (i := 16) (v := ?v61) rfl (by kernel_rfl) (by kernel_rfl) (by kernel_rfl) (fun _ _ _ h => h) (Or.inl ⟨by rfl, ?hy61⟩) (by assumption) ?rest61
        case hy61 => (intro w hSw; (try dsimp only at hSw); go_simp; try with_reducible rfl)
        (try simp only [Act.put, List.setIfInBounds_toArray, List.set_cons_zero, List.set_cons_succ])
        refine wpAnyH_take (i := 17) (v := ?v62) rfl (by kernel_rfl) (by kernel_rfl) (by kernel_rfl) (fun _ _ _ h => h) (Or.inl ⟨by rfl, ?hy62⟩) (by assumption) ?rest62
        case hy62 => (intro w hSw; (try dsimp only at hSw); go_simp; try with_reducible rfl)
        (try simp only [Act.put, List.setIfInBounds_toArray, List.set_cons_zero, List.set_cons_succ])
        refine wpAnyH_take (i := 18) (v := ?v63) rfl (by kernel_rfl) (by kernel_rfl) (by kernel_rfl) (fun _ _ _ h => h) (Or.inl ⟨by rfl, ?hy63⟩) (by assumption) ?rest63
        case hy63 => (intro w hSw; (try dsimp only at hSw); go_simp; try with_reducible rfl)
        (try simp only [Act.put, List.setIfInBounds_toArray, List.set_cons_zero, List.set_cons_succ])
        refine wpAnyH_take (i := 19) (v := ?v64) rfl (by kernel_rfl) (by kernel_rfl) (by kernel_rfl) (fun _ _ _ h => h) (Or.inl ⟨by rfl, ?hy64⟩) (by assumption) ?rest64
        case hy64 => (intro w hSw; (try dsimp only at hSw); go_simp; try with_reducible rfl)
        (try simp only [Act.put, List.setIfInBounds_toArray, List.set_cons_zero, List.set_cons_succ])
        refine wpAnyH_take (i := 20) (v := ?v65) rfl (by kernel_rfl) (by kernel_rfl) (by kernel_rfl) (fun _ _ _ h => h) (Or.inl ⟨by rfl, ?hy65⟩) (by assumption) ?rest65
        case hy65 => (intro w hSw; (try dsimp only at hSw); go_simp; try with_reducible rfl)
        (try simp only [Act.put, List.setIfInBounds_toArray, List.set_cons_zero, List.set_cons_succ])
        refine wpAnyH_ready (rs := [21]) (by kernel_rfl) (by simp) ?_
        refine AllReadyH.cons rfl (fun K hK => ?_) ?_
        · skip
          go_simp
          refine hK.out _ _ ?_ (fun hHeld => ?_)
          · exact KA.out
          clear hK K
          (try simp only [Act.put, List.setIfInBounds_toArray, List.set_cons_zero, List.set_cons_succ])
          refine wpAnyH_ready (rs := [22]) (by kernel_rfl) (by simp) ?_
          refine AllReadyH.cons rfl (fun K hK => ?_) ?_
          · skip
            refine step_append_lies _ (by rfl) _ _ _ (by rfl) 0 211 i0 _ 2 8 Tryz.underlying209 HI.out.1 HI.out.2.1 HI.out.2.2.1 HI.out.2.2.2 rfl (by omega) (.slice AW M cw) M (watCells (dd.F q)) (by rfl) (by exact row_same ((by have := HO.out; rw [show (Sd.moved dd k c1 j q gone).F = dd.F from rfl, HM.out] at this; exact this : w0.ownsRow 0 211 2 (.slice AW M cw) M (watCells (dd.F q))).alloc _) rfl) ⟨w0.heap.size, 0, none⟩ 1 1 [.int .i32 (k : Int), .int .i32 (first : Int)] (by rfl) (by rfl) (by exact World.news_of_block (cs := #[.int .i32 (k : Int), .int .i32 (first : Int)]) (t := 211) (fr := (0, 0)) (new_at (W := w0) rfl rfl)) (by simp [Value.oneCell']) (by omega) (by unfold maxLen; omega) (by omega) (Nat.zero_le _) (w0.heap.size + 1) (by simp) ?_
            intro g1 cp wp hown1 hg1 hat1 hlt1
            have HX := FIN.out wp cp g1 (by rw [show (Sd.moved dd k c1 j q gone).F = dd.F from rfl, HM.out]; exact grown_alike hg1 rfl rfl rfl rfl) (by rw [show (Sd.moved dd k c1 j q gone).F = dd.F from rfl, HM.out]; exact hown1) (by rw [show (Sd.moved dd k c1 j q gone).F = dd.F from rfl, HM.out]; exact hat1)
            rw [show (Sd.moved dd k c1 j q gone).F = dd.F from rfl, HM.out] at HX
            have c9 := HX.1.1
            have r9 := HX.1.2.1
            have c1' : wp.cell? ⟨p, 1, none⟩ = some (.slice (some ⟨gw, 0, none⟩) N N) := (by rw [← HN.out]; exact HX.1.2.2)
            have d0 : wp.cell? ⟨gl, 0, none⟩ = some (.int .i32 (first : Int)) := ((World.cell?_of_block (hg1.block gl (by simp; omega) (fun e => HRO.out gl (by rw [HM.out]; exact e.symm) rfl))).trans ((World.cell?_of_block (alloc_other zl)).trans y0))
            have d1 : wp.cell? ⟨gl, 1, none⟩ = some (.int .i32 (q : Int)) := ((World.cell?_of_block (hg1.block gl (by simp; omega) (fun e => HRO.out gl (by rw [HM.out]; exact e.symm) rfl))).trans ((World.cell?_of_block (alloc_other zl)).trans y1))
            have zl' : gl < wp.heap.size := Nat.lt_of_lt_of_le (by simp; omega) hg1.size
            have HFF := Lib.hid HX.2
            clear hown1 hg1 hat1 hlt1 HX
            refine hK.out _ _ ?_ (fun hHeld => ?_)
            · exact ⟨c1', d0, d1, c9⟩
            clear hK K
            (try simp only [Act.put, List.setIfInBounds_toArray, List.set_cons_zero, List.set_cons_succ])
            refine wpAnyH_take (i := 23) (v := ?v66) rfl (by kernel_rfl) (by kernel_rfl) (by kernel_rfl) (fun _ _ _ h => h) (Or.inl ⟨by rfl, ?hy66⟩) (by assumption) ?rest66
            case hy66 => (intro w hSw; (try dsimp only at hSw); go_simp; try with_reducible rfl)
            (try simp only [Act.put, List.setIfInBounds_toArray, List.set_cons_zero, List.set_cons_succ])
            refine wpAnyH_done (by kernel_rfl) ?_ _
            show Oper.wp _ _ _ _ _ _
            simp only [List.getElem_toArray, List.getElem_cons_succ, List.getElem_cons_zero]
            go_simp
            obtain ⟨τ3, r3, t3⟩ := HFF.out
            have HE := Lib.hid (HEND.out _ _ r3 t3)
            clear r3 t3 HFF
            go_wp2_with fail
            go_ret2
            exact HE.out _ rfl rfl rfl rfl
          exact AllReadyH.nil
        exact AllReadyH.nil
    · have R := Lib.hid (R.out.below B2.out)
      have T := Lib.hid (T.out.trans (Stp.of_below τ B2.out))
      have CA := Lib.hid (CA.out.step (R := fun _ => False) zp (Step.of_below _ τ B2.out) id id id)
      have x0 : W2.cell? ⟨gl, 0, none⟩ = some (.int .i32 (first : Int)) := (B2.out.cell (p := ⟨gl, 0, none⟩) zl).trans x0
      have fl := CA.out.lit
      have zl := CA.out.llt
      have zp := R.out.plt
      have fa := CA.out.head
      clear CL1 CL2 B1 B2 za xf z2 f2 xfr
      have f2 : True := trivial
      have xfr : True := trivial
      have hj2 : 2 ≤ j := by omega
      have hjl : j < c1.ls.length := by omega
      have hqn := HLS.out q (List.mem_of_getElem? hjq)
      have HF := Lib.hid (show ∀ e w', MvYes B τ w p n dd k c1 gone first e w' → MvPost B τ w p n dd k c1 gone first e w' from fun e w' h => .inr h)
      have P1 := R.out.put_fr CA.out HK.out (j : Int)
      have CA1 := CA.out.put_fr (j : Int)
      have hk1 : ({ dd with cls := dd.cls.set k { c1 with fr := (j : Int) } } : Sd).cls[k]? = some { c1 with fr := (j : Int) } := List.getElem?_set_self hkl
      have P2 := P1.1.put_lit CA1 hk1 (i := 1) (by show 1 < c1.ls.length; omega) q
      have CA2 := CA1.put_lit (i := 1) (x := q) (by show 1 < c1.ls.length; omega)
      have hk2 : ({ dd with cls := (dd.cls.set k { c1 with fr := (j : Int) }).set k { c1 with fr := (j : Int), ls := c1.ls.set 1 q } } : Sd).cls[k]? = some { c1 with fr := (j : Int), ls := c1.ls.set 1 q } := List.getElem?_set_self (by rw [List.length_set]; exact hkl)
      have P3 := P2.1.put_lit CA2 hk2 (i := j) (by show j < (c1.ls.set 1 q).length; rw [List.length_set]; omega) gone
      have CA3 := CA2.put_lit (i := j) (x := gone) (by show j < (c1.ls.set 1 q).length; rw [List.length_set]; omega)
      have R3 := Lib.hid (show Sr B τ (((W2.setCell ⟨ga, k * 3 + 2, none⟩ (.int .i64 (j : Int))).setCell ⟨gl, 1, none⟩ (.int .i32 (q : Int))).setCell ⟨gl, j, none⟩ (.int .i32 (gone : Int))) p n (Sd.moved dd k c1 j q gone) by
        have := P3.1
        simp only [List.set_set] at this
        exact this)
      have T3 := Lib.hid (((T.out.trans P1.2).trans P2.2).trans P3.2)
      have HC3 := Lib.hid CA3
      have xj : W2.cell? ⟨gl, j, none⟩ = some (.int .i32 (q : Int)) := CA.out.cell j q hjq
      have x1l : W2.cell? ⟨gl, 1, none⟩ = some (.int .i32 (gone : Int)) := CA.out.cell 1 gone H1.out
      have lf := CA.out.lfree
      have af := CA.out.afree
      have za := CA.out.alt
      have ngl : gl ≠ ga := fun e => by have h1 := CA.out.lrole; have h2 := CA.out.arole; rw [e, h2] at h1; omega
      have ll1 : (1 : Int) < (c1.ls.length : Int) := by omega
      have ll0 : 0 < c1.ls.length := by omega
      have hne0 : ¬ c1.ls = [] := fun e => by rw [e] at ll0; exact Nat.lt_irrefl _ ll0
      have j0 : (0 : Int) ≤ (j : Int) := by omega
      have j1 : (j : Int) < (c1.ls.length : Int) := by omega
      have nj1 : ¬ j = 1 := by omega
      have jm1 : ((j : Int) == -1) = false := beq_eq_false_iff_ne.2 (by omega)
      have x2' : W2.cell? ⟨ga, k * 3 + 2, none⟩ = some (.int .i64 c1.fr) := CA.out.fr
      have HJ := Lib.hid (And.intro hjq (And.intro hyq hy0))
      have HGJ := Lib.hid (show q ≠ (Sd.moved dd k c1 j q gone).gq from HGQ.out j q hj2 hjq)
      clear P1 P2 P3 CA1 CA2 CA3 hk1 hk2 hjq hyq hy0
      go_wp2_with fail
      go_region
      have R4 := Lib.hid (R3.out.alike (W := (((W2.setCell ⟨ga, k * 3 + 2, none⟩ (.int .i64 (j : Int))).setCell ⟨gl, 1, none⟩ (.int .i32 (q : Int))).setCell ⟨gl, j, none⟩ (.int .i32 (gone : Int))).drew) rfl rfl rfl rfl)
      have T4 := Lib.hid (T3.out.alike (W := (((W2.setCell ⟨ga, k * 3 + 2, none⟩ (.int .i64 (j : Int))).setCell ⟨gl, 1, none⟩ (.int .i32 (q : Int))).setCell ⟨gl, j, none⟩ (.int .i32 (gone : Int))).drew) rfl rfl rfl rfl)
      have C4 := Lib.hid (HC3.out.alike (W := (((W2.setCell ⟨ga, k * 3 + 2, none⟩ (.int .i64 (j : Int))).setCell ⟨gl, 1, none⟩ (.int .i32 (q : Int))).setCell ⟨gl, j, none⟩ (.int .i32 (gone : Int))).drew) (by simpa [World.setCell] using zp) rfl rfl rfl rfl)
      generalize (((W2.setCell ⟨ga, k * 3 + 2, none⟩ (.int .i64 (j : Int))).setCell ⟨gl, 1, none⟩ (.int .i32 (q : Int))).setCell ⟨gl, j, none⟩ (.int .i32 (gone : Int))).drew = W3 at *
      clear R T CA R3 T3 HC3 xj x1l lf af za x2' x0 fa fl f2 xfr zp zl
      have zp := R4.out.plt
      have R4 := Lib.hid (R4.out.alike (W := W3.drew) rfl rfl rfl rfl)
      have T4 := Lib.hid (T4.out.alike (W := W3.drew) rfl rfl rfl rfl)
      have C4 := Lib.hid (C4.out.alike (W := W3.drew) R4.out.plt rfl rfl rfl rfl)
      have HEND := Lib.hid (show ∀ (W5 : World) (τ' : Nat → Nat), Sr B τ' W5 p n { Sd.moved dd k c1 j q gone with F := fun r => if r = q then dd.F q ++ [(k, first)] else dd.F r } → Stp τ τ' W3.drew W5 → ∀ W, W.heap = W5.heap → W.os = W5.os → W.tape = W5.tape → W.output = W5.output → MvPost B τ w p n dd k c1 gone first (.returned (.tuple #[.int .i32 (first : Int), .bool true])) W from fun W5 τ' r t W e1 e2 e3 e4 => HF.out _ _ ⟨τ', j, q, _, rfl, hj2, HJ.out.1, HJ.out.2.1, HJ.out.2.2, r.alike e1 e2 e3 e4, (T4.out.trans t).alike e1 e2 e3 e4⟩)
      obtain ⟨gw, AW, cw, hW⟩ := R4.out.wat hqn
      have HW := Lib.hid hW
      have w1 := hW.head
      have w2 : W3.drew.cell? ⟨gw, q, none⟩ = some (.slice AW (dd.F q).length cw) := hW.at_
      have w3 := hW.wfree
      have w4 := hW.wlt
      have y1 : W3.drew.cell? ⟨gl, 1, none⟩ = some (.int .i32 (q : Int)) := C4.out.cell 1 q (by show ((c1.ls.set 1 q).set j gone)[1]? = _; rw [List.getElem?_set_ne nj1]; exact List.getElem?_set_self (by omega))
      have y0 : W3.drew.cell? ⟨gl, 0, none⟩ = some (.int .i32 (first : Int)) := C4.out.cell 0 first (by show ((c1.ls.set 1 q).set j gone)[0]? = _; rw [List.getElem?_set_ne (by omega), List.getElem?_set_ne (by omega)]; exact H0.out)
      have zl := C4.out.llt
      have ngw : gl ≠ gw := fun e => by have h1 := C4.out.lrole; have h2 := hW.wrole; rw [e, h2] at h1; omega
      have FIN := Lib.hid (R4.out.fin_wat hW hqn HGJ.out (k, first))
      have HFL := HFb.out q
      have q0 : (0 : Int) ≤ (q : Int) := by omega
      have q1 : (q : Int) < ((2 * n : Nat) : Int) := by omega
      have HRO := Lib.hid (show ∀ g, Value.ownBlock (.slice AW (dd.F q).length cw) = some g → g ≠ gl from fun g hg e => by have h1 := hW.role g hg; have h2 := C4.out.lrole; rw [e, h2] at h1; omega)
      obtain ⟨i0, hi0, hz0, hz1, hz2⟩ := info_parts infoWat
      have HI := Lib.hid (show _ ∧ _ ∧ _ ∧ _ from ⟨hi0, hz0, hz1, hz2⟩)
      have HO := Lib.hid hW.own
      clear hW hi0 hz0 hz1 hz2
      obtain ⟨N, hN⟩ : ∃ N, 2 * n = N := ⟨_, rfl⟩
      rw [hN] at w1 q1
      obtain ⟨M, hM⟩ : ∃ M, (dd.F q).length = M := ⟨_, rfl⟩
      rw [hM] at w2 HFL
      have HN := Lib.hid hN
      have HM := Lib.hid hM
      clear hN hM
      have c1d : W3.drew.cell? ⟨p, 1, none⟩ = some (.slice (some ⟨gw, 0, none⟩) N N) := w1
      have KB := Lib.hid (show ∀ X, Below W3.drew.heap.size W3.drew X → X.cell? ⟨p, 1, none⟩ = some (.slice (some ⟨gw, 0, none⟩) N N) ∧ X.cell? ⟨gl, 0, none⟩ = some (.int .i32 (first : Int)) ∧ X.cell? ⟨gl, 1, none⟩ = some (.int .i32 (q : Int)) ∧ X.cell? ⟨gw, q, none⟩ = some (.slice AW M cw) from fun X b => ⟨(b.cell (lt_of_cell c1d)).trans c1d, (b.cell (lt_of_cell y0)).trans y0, (b.cell (lt_of_cell y1)).trans y1, (b.cell (lt_of_cell w2)).trans w2⟩)
      go_wp2_with fail
      refine region_last (S := fun w' => w'.cell? ⟨p, 1, none⟩ = some (.slice (some ⟨gw, 0, none⟩) N N) ∧ w'.cell? ⟨gl, 0, none⟩ = some (.int .i32 (first : Int)) ∧ w'.cell? ⟨gl, 1, none⟩ = some (.int .i32 (q : Int)) ∧ w'.cell? ⟨gw, q, none⟩ = some (.slice AW M cw)) (by kernel_rfl) (by rfl) (by rfl) (by kernel_rfl) ⟨c1d, y0, y1, w2⟩ (fun hHeld => ?_)
      generalize W3.drew = w0 at *
      have KA := Lib.hid (KB.out (w0.alloc (.cells #[.int .i32 (k : Int), .int .i32 (first : Int)] 211)) ((Below.refl _ _).alloc (Nat.le_refl _) _))
      simp only [List.pop_toArray, List.dropLast_cons_cons, List.dropLast_singleton]
      refine wpAnyH_take (i := 0) (v := ?v67) rfl (by kernel_rfl) (by kernel_rfl) (by kernel_rfl) (fun _ _ _ h => h) (Or.inl ⟨by rfl, ?hy67⟩) (by assumption) ?rest67
      case hy67 => (intro w hSw; (try dsimp only at hSw); go_simp; try with_reducible rfl)
      (try simp only [Act.put, List.setIfInBounds_toArray, List.set_cons_zero, List.set_cons_succ])
      refine wpAnyH_take (i := 1) (v := ?v68) rfl (by kernel_rfl) (by kernel_rfl) (by kernel_rfl) (fun _ _ _ h => h) (Or.inl ⟨by rfl, ?hy68⟩) (by assumption) ?rest68
      case hy68 => (intro w hSw; (try dsimp only at hSw); go_simp; try with_reducible rfl)
      (try simp only [Act.put, List.setIfInBounds_toArray, List.set_cons_zero, List.set_cons_succ])
      refine wpAnyH_take (i := 2) (v := ?v69) rfl (by kernel_rfl) (by kernel_rfl) (by kernel_rfl) (fun _ _ _ h => h) (Or.inl ⟨by rfl, ?hy69⟩) (by assumption) ?rest69
      case hy69 => (intro w hSw; (try dsimp only at hSw); go_simp; try with_reducible rfl)
      (try simp only [Act.put, List.setIfInBounds_toArray, List.set_cons_zero, List.set_cons_succ])
      refine wpAnyH_take (i := 3) (v := ?v70) rfl (by kernel_rfl) (by kernel_rfl) (by kernel_rfl) (fun _ _ _ h => h) (Or.inl ⟨by rfl, ?hy70⟩) (by assumption) ?rest70
      case hy70 => (intro w hSw; (try dsimp only at hSw); go_simp; try with_reducible rfl)
      (try simp only [Act.put, List.setIfInBounds_toArray, List.set_cons_zero, List.set_cons_succ])
      refine wpAnyH_take (i := 4) (v := ?v71) rfl (by kernel_rfl) (by kernel_rfl) (by kernel_rfl) (fun _ _ _ h => h) (Or.inl ⟨by rfl, ?hy71⟩) (by assumption) ?rest71
      case hy71 => (intro w hSw; (try dsimp only at hSw); go_simp; try with_reducible rfl)
      (try simp only [Act.put, List.setIfInBounds_toArray, List.set_cons_zero, List.set_cons_succ])
      refine wpAnyH_take (i := 5) (v := ?v72) rfl (by kernel_rfl) (by kernel_rfl) (by kernel_rfl) (fun _ _ _ h => h) (Or.inl ⟨by rfl, ?hy72⟩) (by assumption) ?rest72
      case hy72 => (intro w hSw; (try dsimp only at hSw); go_simp; try with_reducible rfl)
      (try simp only [Act.put, List.setIfInBounds_toArray, List.set_cons_zero, List.set_cons_succ])
      refine wpAnyH_take (i := 6) (v := ?v73) rfl (by kernel_rfl) (by kernel_rfl) (by kernel_rfl) (fun _ _ _ h => h) (Or.inl ⟨by rfl, ?hy73⟩) (by assumption) ?rest73
      case hy73 => (intro w hSw; (try dsimp only at hSw); go_simp; try with_reducible rfl)
      (try simp only [Act.put, List.setIfInBounds_toArray, List.set_cons_zero, List.set_cons_succ])
      refine wpAnyH_take (i := 7) (v := ?v74) rfl (by kernel_rfl) (by kernel_rfl) (by kernel_rfl) (fun _ _ _ h => h) (Or.inl ⟨by rfl, ?hy74⟩) (by assumption) ?rest74
      case hy74 => (intro w hSw; (try dsimp only at hSw); go_simp; try with_reducible rfl)
      (try simp only [Act.put, List.setIfInBounds_toArray, List.set_cons_zero, List.set_cons_succ])
      refine wpAnyH_take (i := 8) (v := ?v75) rfl (by kernel_rfl) (by kernel_rfl) (by kernel_rfl) (fun _ _ _ h => h) (Or.inl ⟨by rfl, ?hy75⟩) (by assumption) ?rest75
      case hy75 => (intro w hSw; (try dsimp only at hSw); go_simp; try with_reducible rfl)
      (try simp only [Act.put, List.setIfInBounds_toArray, List.set_cons_zero, List.set_cons_succ])
      refine wpAnyH_take (i := 9) (v := ?v76) rfl (by kernel_rfl) (by kernel_rfl) (by kernel_rfl) (fun _ _ _ h => h) (Or.inl ⟨by rfl, ?hy76⟩) (by assumption) ?rest76
      case hy76 => (intro w hSw; (try dsimp only at hSw); go_simp; try with_reducible rfl)
      (try simp only [Act.put, List.setIfInBounds_toArray, List.set_cons_zero, List.set_cons_succ])
      refine wpAnyH_take (i := 10) (v := ?v77) rfl (by kernel_rfl) (by kernel_rfl) (by kernel_rfl) (fun _ _ _ h => h) (Or.inl ⟨by rfl, ?hy77⟩) (by assumption) ?rest77
      case hy77 => (intro w hSw; (try dsimp only at hSw); go_simp; try with_reducible rfl)
      (try simp only [Act.put, List.setIfInBounds_toArray, List.set_cons_zero, List.set_cons_succ])
      refine wpAnyH_take (i := 11) (v := ?v78) rfl (by kernel_rfl) (by kernel_rfl) (by kernel_rfl) (fun _ _ _ h => h) (Or.inl ⟨by rfl, ?hy78⟩) (by assumption) ?rest78
      case hy78 => (intro w hSw; (try dsimp only at hSw); go_simp; try with_reducible rfl)
      (try simp only [Act.put, List.setIfInBounds_toArray, List.set_cons_zero, List.set_cons_succ])
      refine wpAnyH_take (i := 12) (v := ?v79) rfl (by kernel_rfl) (by kernel_rfl) (by kernel_rfl) (fun _ _ _ h => h) (Or.inl ⟨by rfl, ?hy79⟩) (by assumption) ?rest79
      case hy79 => (intro w hSw; (try dsimp only at hSw); go_simp; try with_reducible rfl)
      (try simp only [Act.put, List.setIfInBounds_toArray, List.set_cons_zero, List.set_cons_succ])
      refine wpAnyH_take (i := 13) (v := ?v80) rfl (by kernel_rfl) (by kernel_rfl) (by kernel_rfl) (fun _ _ _ h => h) (Or.inl ⟨by rfl, ?hy80⟩) (by assumption) ?rest80
      case hy80 => (intro w hSw; (try dsimp only at hSw); go_simp; try with_reducible rfl)
      (try simp only [Act.put, List.setIfInBounds_toArray, List.set_cons_zero, List.set_cons_succ])
      refine wpAnyH_take (i := 14) (v := ?v81) rfl (by kernel_rfl) (by kernel_rfl) (by kernel_rfl) (fun _ _ _ h => h) (Or.inl ⟨by rfl, ?hy81⟩) (by assumption) ?rest81
      case hy81 => (intro w hSw; (try dsimp only at hSw); go_simp; try with_reducible rfl)
      (try simp only [Act.put, List.setIfInBounds_toArray, List.set_cons_zero, List.set_cons_succ])
      refine wpAnyH_take (i := 15) (v := ?v82) rfl (by kernel_rfl) (by kernel_rfl) (by kernel_rfl) (fun _ _ _ h => h) (Or.inl ⟨by rfl, ?hy82⟩) (by assumption) ?rest82
      case hy82 => (intro w hSw; (try dsimp only at hSw); go_simp; try with_reducible rfl)
      (try simp only [Act.put, List.setIfInBounds_toArray, List.set_cons_zero, List.set_cons_succ])
      refine wpAnyH_take (i := 16) (v := ?v83) rfl (by kernel_rfl) (by kernel_rfl) (by kernel_rfl) (fun _ _ _ h => h) (Or.inl ⟨by rfl, ?hy83⟩) (by assumption) ?rest83
      case hy83 => (intro w hSw; (try dsimp only at hSw); go_simp; try with_reducible rfl)
      (try simp only [Act.put, List.setIfInBounds_toArray, List.set_cons_zero, List.set_cons_succ])
      refine wpAnyH_take (i := 17) (v := ?v84) rfl (by kernel_rfl) (by kernel_rfl) (by kernel_rfl) (fun _ _ _ h => h) (Or.inl ⟨by rfl, ?hy84⟩) (by assumption) ?rest84
      case hy84 => (intro w hSw; (try dsimp only at hSw); go_simp; try with_reducible rfl)
      (try simp only [Act.put, List.setIfInBounds_toArray, List.set_cons_zero, List.set_cons_succ])
      refine wpAnyH_take (i := 18) (v := ?v85) rfl (by kernel_rfl) (by kernel_rfl) (by kernel_rfl) (fun _ _ _ h => h) (Or.inl ⟨by rfl, ?hy85⟩) (by assumption) ?rest85
      case hy85 => (intro w hSw; (try dsimp only at hSw); go_simp; try with_reducible rfl)
      (try simp only [Act.put, List.setIfInBounds_toArray, List.set_cons_zero, List.set_cons_succ])
      refine wpAnyH_take (i := 19) (v := ?v86) rfl (by kernel_rfl) (by kernel_rfl) (by kernel_rfl) (fun _ _ _ h => h) (Or.inl ⟨by rfl, ?hy86⟩) (by assumption) ?rest86
      case hy86 => (intro w hSw; (try dsimp only at hSw); go_simp; try with_reducible rfl)
      (try simp only [Act.put, List.setIfInBounds_toArray, List.set_cons_zero, List.set_cons_succ])
      refine wpAnyH_take (i := 20) (v := ?v87) rfl (by kernel_rfl) (by kernel_rfl) (by kernel_rfl) (fun _ _ _ h => h) (Or.inl ⟨by rfl, ?hy87⟩) (by assumption) ?rest87
      case hy87 => (intro w hSw; (try dsimp only at hSw); go_simp; try with_reducible rfl)
      (try simp only [Act.put, List.setIfInBounds_toArray, List.set_cons_zero, List.set_cons_succ])
      refine wpAnyH_ready (rs := [21]) (by kernel_rfl) (by simp) ?_
      refine AllReadyH.cons rfl (fun K hK => ?_) ?_
      · skip
        go_simp
        refine hK.out _ _ ?_ (fun hHeld => ?_)
        · exact KA.out
        clear hK K
        (try simp only [Act.put, List.setIfInBounds_toArray, List.set_cons_zero, List.set_cons_succ])
        refine wpAnyH_ready (rs := [22]) (by kernel_rfl) (by simp) ?_
        refine AllReadyH.cons rfl (fun K hK => ?_) ?_
        · skip
          refine step_append_lies _ (by rfl) _ _ _ (by rfl) 0 211 i0 _ 2 8 Tryz.underlying209 HI.out.1 HI.out.2.1 HI.out.2.2.1 HI.out.2.2.2 rfl (by omega) (.slice AW M cw) M (watCells (dd.F q)) (by rfl) (by exact row_same ((by have := HO.out; rw [show (Sd.moved dd k c1 j q gone).F = dd.F from rfl, HM.out] at this; exact this : w0.ownsRow 0 211 2 (.slice AW M cw) M (watCells (dd.F q))).alloc _) rfl) ⟨w0.heap.size, 0, none⟩ 1 1 [.int .i32 (k : Int), .int .i32 (first : Int)] (by rfl) (by rfl) (by exact World.news_of_block (cs := #[.int .i32 (k : Int), .int .i32 (first : Int)]) (t := 211) (fr := (0, 0)) (new_at (W := w0) rfl rfl)) (by simp [Value.oneCell']) (by omega) (by unfold maxLen; omega) (by omega) (Nat.zero_le _) (w0.heap.size + 1) (by simp) ?_
          intro g1 cp wp hown1 hg1 hat1 hlt1
          have HX := FIN.out wp cp g1 (by rw [show (Sd.moved dd k c1 j q gone).F = dd.F from rfl, HM.out]; exact grown_alike hg1 rfl rfl rfl rfl) (by rw [show (Sd.moved dd k c1 j q gone).F = dd.F from rfl, HM.out]; exact hown1) (by rw [show (Sd.moved dd k c1 j q gone).F = dd.F from rfl, HM.out]; exact hat1)
          rw [show (Sd.moved dd k c1 j q gone).F = dd.F from rfl, HM.out] at HX
          have c9 := HX.1.1
          have r9 := HX.1.2.1
          have c1' : wp.cell? ⟨p, 1, none⟩ = some (.slice (some ⟨gw, 0, none⟩) N N) := (by rw [← HN.out]; exact HX.1.2.2)
          have d0 : wp.cell? ⟨gl, 0, none⟩ = some (.int .i32 (first : Int)) := ((World.cell?_of_block (hg1.block gl (by simp; omega) (fun e => HRO.out gl (by rw [HM.out]; exact e.symm) rfl))).trans ((World.cell?_of_block (alloc_other zl)).trans y0))
          have d1 : wp.cell? ⟨gl, 1, none⟩ = some (.int .i32 (q : Int)) := ((World.cell?_of_block (hg1.block gl (by simp; omega) (fun e => HRO.out gl (by rw [HM.out]; exact e.symm) rfl))).trans ((World.cell?_of_block (alloc_other zl)).trans y1))
          have zl' : gl < wp.heap.size := Nat.lt_of_lt_of_le (by simp; omega) hg1.size
          have HFF := Lib.hid HX.2
          clear hown1 hg1 hat1 hlt1 HX
          refine hK.out _ _ ?_ (fun hHeld => ?_)
          · exact ⟨c1', d0, d1, c9⟩
          clear hK K
          (try simp only [Act.put, List.setIfInBounds_toArray, List.set_cons_zero, List.set_cons_succ])
          refine wpAnyH_take (i := 23) (v := ?v88) rfl (by kernel_rfl) (by kernel_rfl) (by kernel_rfl) (fun _ _ _ h => h) (Or.inl ⟨by rfl, ?hy88⟩) (by assumption) ?rest88
          case hy88 => (intro w hSw; (try dsimp only at hSw); go_simp; try with_reducible rfl)
          (try simp only [Act.put, List.setIfInBounds_toArray, List.set_cons_zero, List.set_cons_succ])
          refine wpAnyH_done (by kernel_rfl) ?_ _
          show Oper.wp _ _ _ _ _ _
          simp only [List.getElem_toArray, List.getElem_cons_succ, List.getElem_cons_zero]
          go_simp
          obtain ⟨τ3, r3, t3⟩ := HFF.out
          have HE := Lib.hid (HEND.out _ _ r3 t3)
          clear r3 t3 HFF
          go_wp2_with fail
          go_ret2
          exact HE.out _ rfl rfl rfl rfl
        exact AllReadyH.nil
      exact AllReadyH.nil
end
end Go.Proofs.YtpmdnbdmocdngaaGreat
