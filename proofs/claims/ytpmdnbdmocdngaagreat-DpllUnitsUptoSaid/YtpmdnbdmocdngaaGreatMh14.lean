/-
  Parts of the proof, joined: DpllMv.
-/
import Derived.Test.YtpmdnbdmocdngaaGreatMh12
import Derived.Test.YtpmdnbdmocdngaaGreatMh13

namespace Go.Proofs.YtpmdnbdmocdngaaGreat
open Go.ChangeShapes Go.WideShapes Go.ChangeAt Go.RowKit
set_option linter.unusedVariables false

theorem infoWat : (Tryz.prog.info? 211).map (fun i => (i.zero, i.size, i.bytes)) = some (some (.agg #[.int .i32 0, .int .i32 0]), 2, 8) := by kernel_rfl
/-- The k-th claim watches q, which stood at j, in gone's place. -/
def Sd.moved (d : Sd) (k : Nat) (c : Cl) (j q gone : Nat) : Sd := { d with cls := d.cls.set k { c with fr := (j : Int), ls := (c.ls.set 1 q).set j gone } }
theorem nd_ne {ls : List Nat} (nd : ls.Nodup) {i i' a b : Nat} (hi : i ≠ i') (h : ls[i]? = some a) (h' : ls[i']? = some b) : a ≠ b := fun e => by
  subst e
  obtain ⟨a1, a2⟩ := List.getElem?_eq_some_iff.1 h
  obtain ⟨b1, b2⟩ := List.getElem?_eq_some_iff.1 h'
  have hp := List.pairwise_iff_getElem.1 nd
  rcases Nat.lt_or_gt_of_ne hi with h | h
  · exact hp i i' a1 b1 h (a2.trans b2.symm)
  · exact hp i' i b1 a1 h (b2.trans a2.symm)
def MvNo (B : Nat) (τ : Nat → Nat) (w : World) (p n : Nat) (dd : Sd) (k : Nat) (c1 : Cl) (gone first : Nat) (e : Ending) (w' : World) : Prop :=
  e = .returned (.tuple #[.int .i32 (first : Int), .bool false]) ∧ Sr B τ w' p n dd ∧ Stp τ τ w w' ∧ (dd.wo[first]? = some 1 ∨ ∀ i q, 2 ≤ i → c1.ls[i]? = some q → ∃ y, dd.wo[q]? = some y ∧ y < 0)
def MvYes (B : Nat) (τ : Nat → Nat) (w : World) (p n : Nat) (dd : Sd) (k : Nat) (c1 : Cl) (gone first : Nat) (e : Ending) (w' : World) : Prop :=
  ∃ τ' j q y, e = .returned (.tuple #[.int .i32 (first : Int), .bool true]) ∧ 2 ≤ j ∧ c1.ls[j]? = some q ∧ dd.wo[q]? = some y ∧ 0 ≤ y ∧ Sr B τ' w' p n { Sd.moved dd k c1 j q gone with F := fun r => if r = q then dd.F q ++ [(k, first)] else dd.F r } ∧ Stp τ τ' w w'
def MvPost (B : Nat) (τ : Nat → Nat) (w : World) (p n : Nat) (dd : Sd) (k : Nat) (c1 : Cl) (gone first : Nat) (e : Ending) (w' : World) : Prop := MvNo B τ w p n dd k c1 gone first e w' ∨ MvYes B τ w p n dd k c1 gone first e w'
section
variable {B : Nat} {τ : Nat → Nat} {w : World} {p n k : Nat} {dd : Sd} {c1 : Cl}
set_option maxHeartbeats 6400000 in
set_option linter.unusedSimpArgs false in
/-- Where the claim's second literal is the one that is gone. -/
theorem move_two (h : Sr B τ w p n dd) (L : Len n dd) (hk : dd.cls[k]? = some c1) (hkb : k < 2147483648) (hls : ∀ l ∈ c1.ls, l < 2 * n) (hlb : c1.ls.length ≤ 131072) {fr gone first : Nat} (hfr : c1.fr = (fr : Int)) (hfr1 : 2 ≤ fr) (hfr2 : fr ≤ c1.ls.length) (h0 : c1.ls[0]? = some first) (h1 : c1.ls[1]? = some gone) (hne : first ≠ gone) (hFb : ∀ q, (dd.F q).length ≤ 4294967296) (hgq : ∀ q ∈ c1.ls, q ≠ first → q ≠ gone → q ≠ dd.gq) (hnd : c1.ls.Nodup) :
    Calls Tryz.prog 127 #[ptr p, .int .i32 (k : Int), .int .i32 (gone : Int)] w (MvPost B τ w p n dd k c1 gone first) := by
  have hn := L.nb
  have hfn := hls first (List.mem_of_getElem? h0)
  obtain ⟨ga, capa, gl, capl, ca⟩ := h.claim hk (by omega)
  have hkl := (List.getElem?_eq_some_iff.1 hk).1
  have HL := Lib.hid L
  have HWO := Lib.hid L.wo
  have HLS := Lib.hid hls
  have HK := Lib.hid hk
  have H0 := Lib.hid h0
  have H1 := Lib.hid h1
  have HFR := Lib.hid hfr
  have HFb := Lib.hid hFb
  have HGQ := Lib.hid (show ∀ j q, 2 ≤ j → c1.ls[j]? = some q → q ≠ dd.gq from fun j q hj hq => hgq q (List.mem_of_getElem? hq) (nd_ne hnd (by omega) hq h0) (nd_ne hnd (by omega) hq h1))
  have fa := ca.head
  have ale := ca.le
  have amx := ca.mx
  have fl := ca.lit
  have x0 := ca.cell 0 first h0
  have za := ca.alt
  have zl := ca.llt
  have lle := ca.lle
  have lmx := ca.lmx
  have k0 : (0 : Int) ≤ (k : Int) := by omega
  have k1 : (k : Int) < (dd.cls.length : Int) := by omega
  have hne1 : ((first : Int) == (gone : Int)) = false := beq_eq_false_iff_ne.2 (by omega)
  have hne2 : ¬ (first : Int) = (gone : Int) := by omega
  have zp := h.plt
  have R := Lib.hid h
  have T : Hid (Stp τ τ w w) := Stp.refl _ _
  have CA := Lib.hid ca
  clear h L hk hls h0 h1 hfr hFb ca hgq hnd
  go_enter Tryz.func127, Tryz.ntmps127
  go_wp2_with fail
  -- w, R, T, CA, HK, x0 (l[0] = first), hy: wo first
  obtain ⟨g2, c2, a2⟩ := R.out.at_wo (by rw [HWO.out]; omega)
  obtain ⟨yf, hyf⟩ : ∃ y, dd.wo[first]? = some y := ⟨_, List.getElem?_eq_getElem (by rw [HWO.out]; exact hfn)⟩
  have f2 := a2.len_wo.1
  have l2 := a2.len_wo.2
  have k2 := a2.cap
  have xf := a2.wo hyf
  have z2 := a2.lt
  have zp := R.out.plt
  have zl := CA.out.llt
  have hfw : first < dd.wo.length := by rw [HWO.out]; exact hfn
  have b1 : (0 : Int) ≤ (first : Int) := by omega
  have b2 : (first : Int) < (dd.wo.length : Int) := by omega
  have fl := CA.out.lit
  have fa := CA.out.head
  have xfr : w.cell? ⟨ga, k * 3 + 2, none⟩ = some (.int .i64 (fr : Int)) := by rw [← HFR.out]; exact CA.out.fr
  have za := CA.out.alt
  have lle := CA.out.lle
  have lmx := CA.out.lmx
  have HYF := Lib.hid hyf
  clear a2 hyf
  by_cases hy1 : yf = 1
  · subst hy1
    have HN := Lib.hid (show ∀ W : World, W.heap = w.heap → W.os = w.os → W.tape = w.tape → W.output = w.output → MvPost B τ w p n dd k c1 gone first (.returned (.tuple #[.int .i32 (first : Int), .bool false])) W from fun W e1 e2 e3 e4 => .inl ⟨rfl, R.out.alike e1 e2 e3 e4, T.out.alike e1 e2 e3 e4, .inl HYF.out⟩)
    go_wp2_with fail
    go_quiet (fail)
    go_wp2_with fail
    go_ret2
    exact HN.out _ rfl rfl rfl rfl
  · have hy2 : (yf == 1) = false := beq_eq_false_iff_ne.2 hy1
    have CL1 := Lib.hid (fun (W : World) (b : Below w.heap.size w W) => left_any (R.out.below b) HL.out (lo := fr) (hi := c1.ls.length) (fun i q hq => (b.cell (p := ⟨gl, i, none⟩) zl).trans (CA.out.cell i q hq)) (Nat.lt_of_lt_of_le zl b.size) lle lmx HLS.out hfr2 (Nat.le_refl _) hlb)
    have CL2 := Lib.hid (fun (W : World) (b : Below w.heap.size w W) => show Calls Tryz.prog 170 #[ptr p, .slice (some ⟨gl, 0, none⟩) c1.ls.length capl, .int .i64 2, .int .i64 (fr : Int)] W (LfPost W dd.wo c1.ls 2 fr) from left_any (R.out.below b) HL.out (lo := 2) (hi := fr) (fun i q hq => (b.cell (p := ⟨gl, i, none⟩) zl).trans (CA.out.cell i q hq)) (Nat.lt_of_lt_of_le zl b.size) lle lmx HLS.out hfr1 hfr2 hlb)
    go_wp2_with fail
    go_quiet (fail)
    have B1 : Hid (Below w.heap.size w (w.drewN nq)) := Below.draws (Below.refl _ _) nq
    go_wp2_with fail
    (with_reducible refine (CL1.out _ B1.out).mono ?_)
    rintro e W2 ⟨hb, hr⟩
    have B2 := Lib.hid (B1.out.trans (hb.mono B1.out.size))
    clear hb
    rcases hr with ⟨rfl, hall1⟩ | ⟨j, q, yq, rfl, hj1, hj3, hjq, hyq, hy0⟩
    · have HA1 := Lib.hid hall1
      clear hall1
      have fl' := (B2.out.cell (p := ⟨ga, k * 3, none⟩) za).trans fl
      have xfr' := (B2.out.cell (p := ⟨ga, k * 3 + 2, none⟩) za).trans xfr
      have za' := Nat.lt_of_lt_of_le za B2.out.size
      go_wp2_with fail
      (with_reducible refine (CL2.out _ B2.out).mono ?_)
      rintro e W4 ⟨hb, hr⟩
      have B3 := Lib.hid (B2.out.trans (hb.mono B2.out.size))
      clear hb fl' xfr' za'
      rcases hr with ⟨rfl, hall2⟩ | ⟨j, q, yq, rfl, hj1, hj3, hjq, hyq, hy0⟩
      · have HN : Hid (MvPost B τ w p n dd k c1 gone first (.returned (.tuple #[.int .i32 (first : Int), .bool false])) W4) := .inl ⟨rfl, R.out.below B3.out, T.out.trans (Stp.of_below τ B3.out), .inr fun i q h2 hq => by
          by_cases hi : i < fr
          · exact hall2 i q h2 hi hq
          · exact HA1.out i q (by omega) (by have := (List.getElem?_eq_some_iff.1 hq).1; exact this) hq⟩
        have x0' : W4.cell? ⟨gl, 0, none⟩ = some (.int .i32 (first : Int)) := (B3.out.cell (p := ⟨gl, 0, none⟩) zl).trans x0
        have zl' : gl < W4.heap.size := Nat.lt_of_lt_of_le zl B3.out.size
        clear hall2
        go_wp2_with fail
        go_ret2
        exact HN.out
      · have R := Lib.hid (R.out.below B3.out)
        have T := Lib.hid (T.out.trans (Stp.of_below τ B3.out))
        have CA := Lib.hid (CA.out.step (R := fun _ => False) zp (Step.of_below _ τ B3.out) id id id)
        have x0 : W4.cell? ⟨gl, 0, none⟩ = some (.int .i32 (first : Int)) := (B3.out.cell (p := ⟨gl, 0, none⟩) zl).trans x0
        have fl := CA.out.lit
        have zl := CA.out.llt
        have zp := R.out.plt
        have fa := CA.out.head
        clear CL1 CL2 B1 B2 B3 HA1 za xf z2 f2 xfr
        have f2 : True := trivial
        have xfr : True := trivial
        have hj2 : 2 ≤ j := by omega
        have hjl : j < c1.ls.length := by omega
        have hqn := HLS.out q (List.mem_of_getElem? hjq)
        have HF := Lib.hid (show ∀ e w', MvYes B τ w p n dd k c1 gone first e w' → MvPost B τ w p n dd k c1 gone first e w' from fun e w' h => .inr h)
        have P1 := R.out.put_fr CA.out HK.out (j : Int)
        have CA1 := CA.out.put_fr (j : Int)
        have hk1 : ({ dd with cls := dd.cls.set k { c1 with fr := (j : Int) } } : Sd).cls[k]? = some { c1 with fr := (j : Int) } := List.getElem?_set_self hkl
        have P2 := P1.1.put_lit CA1 hk1 (i := 1) (by show 1 < c1.ls.length; omega) q
        have CA2 := CA1.put_lit (i := 1) (x := q) (by show 1 < c1.ls.length; omega)
        have hk2 : ({ dd with cls := (dd.cls.set k { c1 with fr := (j : Int) }).set k { c1 with fr := (j : Int), ls := c1.ls.set 1 q } } : Sd).cls[k]? = some { c1 with fr := (j : Int), ls := c1.ls.set 1 q } := List.getElem?_set_self (by rw [List.length_set]; exact hkl)
        have P3 := P2.1.put_lit CA2 hk2 (i := j) (by show j < (c1.ls.set 1 q).length; rw [List.length_set]; omega) gone
        have CA3 := CA2.put_lit (i := j) (x := gone) (by show j < (c1.ls.set 1 q).length; rw [List.length_set]; omega)
        have R3 := Lib.hid (show Sr B τ (((W4.setCell ⟨ga, k * 3 + 2, none⟩ (.int .i64 (j : Int))).setCell ⟨gl, 1, none⟩ (.int .i32 (q : Int))).setCell ⟨gl, j, none⟩ (.int .i32 (gone : Int))) p n (Sd.moved dd k c1 j q gone) by
          have := P3.1
          simp only [List.set_set] at this
          exact this)
        have T3 := Lib.hid (((T.out.trans P1.2).trans P2.2).trans P3.2)
        have HC3 := Lib.hid CA3
        have xj : W4.cell? ⟨gl, j, none⟩ = some (.int .i32 (q : Int)) := CA.out.cell j q hjq
        have x1l : W4.cell? ⟨gl, 1, none⟩ = some (.int .i32 (gone : Int)) := CA.out.cell 1 gone H1.out
        have lf := CA.out.lfree
        have af := CA.out.afree
        have za := CA.out.alt
        have ngl : gl ≠ ga := fun e => by have h1 := CA.out.lrole; have h2 := CA.out.arole; rw [e, h2] at h1; omega
        have ll1 : (1 : Int) < (c1.ls.length : Int) := by omega
        have ll0 : 0 < c1.ls.length := by omega
        have hne0 : ¬ c1.ls = [] := fun e => by rw [e] at ll0; exact Nat.lt_irrefl _ ll0
        have j0 : (0 : Int) ≤ (j : Int) := by omega
        have j1 : (j : Int) < (c1.ls.length : Int) := by omega
        have nj1 : ¬ j = 1 := by omega
        have jm1 : ((j : Int) == -1) = false := beq_eq_false_iff_ne.2 (by omega)
        have x2' : W4.cell? ⟨ga, k * 3 + 2, none⟩ = some (.int .i64 c1.fr) := CA.out.fr
        have HJ := Lib.hid (And.intro hjq (And.intro hyq hy0))
        have HGJ := Lib.hid (show q ≠ (Sd.moved dd k c1 j q gone).gq from HGQ.out j q hj2 hjq)
        clear P1 P2 P3 CA1 CA2 CA3 hk1 hk2 hjq hyq hy0
        go_wp2_with fail
        go_region
        have R4 := Lib.hid (R3.out.alike (W := (((W4.setCell ⟨ga, k * 3 + 2, none⟩ (.int .i64 (j : Int))).setCell ⟨gl, 1, none⟩ (.int .i32 (q : Int))).setCell ⟨gl, j, none⟩ (.int .i32 (gone : Int))).drew) rfl rfl rfl rfl)
        have T4 := Lib.hid (T3.out.alike (W := (((W4.setCell ⟨ga, k * 3 + 2, none⟩ (.int .i64 (j : Int))).setCell ⟨gl, 1, none⟩ (.int .i32 (q : Int))).setCell ⟨gl, j, none⟩ (.int .i32 (gone : Int))).drew) rfl rfl rfl rfl)
        have C4 := Lib.hid (HC3.out.alike (W := (((W4.setCell ⟨ga, k * 3 + 2, none⟩ (.int .i64 (j : Int))).setCell ⟨gl, 1, none⟩ (.int .i32 (q : Int))).setCell ⟨gl, j, none⟩ (.int .i32 (gone : Int))).drew) (by simpa [World.setCell] using zp) rfl rfl rfl rfl)
        generalize (((W4.setCell ⟨ga, k * 3 + 2, none⟩ (.int .i64 (j : Int))).setCell ⟨gl, 1, none⟩ (.int .i32 (q : Int))).setCell ⟨gl, j, none⟩ (.int .i32 (gone : Int))).drew = W3 at *
        clear R T CA R3 T3 HC3 xj x1l lf af za x2' x0 fa fl f2 xfr zp zl
        have zp := R4.out.plt
        have R4 := Lib.hid (R4.out.alike (W := W3.drew) rfl rfl rfl rfl)
        have T4 := Lib.hid (T4.out.alike (W := W3.drew) rfl rfl rfl rfl)
        have C4 := Lib.hid (C4.out.alike (W := W3.drew) R4.out.plt rfl rfl rfl rfl)
        have HEND := Lib.hid (show ∀ (W5 : World) (τ' : Nat → Nat), Sr B τ' W5 p n { Sd.moved dd k c1 j q gone with F := fun r => if r = q then dd.F q ++ [(k, first)] else dd.F r } → Stp τ τ' W3.drew W5 → ∀ W, W.heap = W5.heap → W.os = W5.os → W.tape = W5.tape → W.output = W5.output → MvPost B τ w p n dd k c1 gone first (.returned (.tuple #[.int .i32 (first : Int), .bool true])) W from fun W5 τ' r t W e1 e2 e3 e4 => HF.out _ _ ⟨τ', j, q, _, rfl, hj2, HJ.out.1, HJ.out.2.1, HJ.out.2.2, r.alike e1 e2 e3 e4, (T4.out.trans t).alike e1 e2 e3 e4⟩)
        obtain ⟨gw, AW, cw, hW⟩ := R4.out.wat hqn
        have HW := Lib.hid hW
        have w1 := hW.head
        have w2 : W3.drew.cell? ⟨gw, q, none⟩ = some (.slice AW (dd.F q).length cw) := hW.at_
        have w3 := hW.wfree
        have w4 := hW.wlt
        have y1 : W3.drew.cell? ⟨gl, 1, none⟩ = some (.int .i32 (q : Int)) := C4.out.cell 1 q (by show ((c1.ls.set 1 q).set j gone)[1]? = _; rw [List.getElem?_set_ne nj1]; exact List.getElem?_set_self (by omega))
        have y0 : W3.drew.cell? ⟨gl, 0, none⟩ = some (.int .i32 (first : Int)) := C4.out.cell 0 first (by show ((c1.ls.set 1 q).set j gone)[0]? = _; rw [List.getElem?_set_ne (by omega), List.getElem?_set_ne (by omega)]; exact H0.out)
        have zl := C4.out.llt
        have ngw : gl ≠ gw := fun e => by have h1 := C4.out.lrole; have h2 := hW.wrole; rw [e, h2] at h1; omega
        have FIN := Lib.hid (R4.out.fin_wat hW hqn HGJ.out (k, first))
        have HFL := HFb.out q
        have q0 : (0 : Int) ≤ (q : Int) := by omega
        have q1 : (q : Int) < ((2 * n : Nat) : Int) := by omega
        have HRO := Lib.hid (show ∀ g, Value.ownBlock (.slice AW (dd.F q).length cw) = some g → g ≠ gl from fun g hg e => by have h1 := hW.role g hg; have h2 := C4.out.lrole; rw [e, h2] at h1; omega)
        obtain ⟨i0, hi0, hz0, hz1, hz2⟩ := info_parts infoWat
        have HI := Lib.hid (show _ ∧ _ ∧ _ ∧ _ from ⟨hi0, hz0, hz1, hz2⟩)
        have HO := Lib.hid hW.own
        clear hW hi0 hz0 hz1 hz2
        obtain ⟨N, hN⟩ : ∃ N, 2 * n = N := ⟨_, rfl⟩
        rw [hN] at w1 q1
        obtain ⟨M, hM⟩ : ∃ M, (dd.F q).length = M := ⟨_, rfl⟩
        rw [hM] at w2 HFL
        have HN := Lib.hid hN
        have HM := Lib.hid hM
        clear hN hM
        have c1d : W3.drew.cell? ⟨p, 1, none⟩ = some (.slice (some ⟨gw, 0, none⟩) N N) := w1
        have KB := Lib.hid (show ∀ X, Below W3.drew.heap.size W3.drew X → X.cell? ⟨p, 1, none⟩ = some (.slice (some ⟨gw, 0, none⟩) N N) ∧ X.cell? ⟨gl, 0, none⟩ = some (.int .i32 (first : Int)) ∧ X.cell? ⟨gl, 1, none⟩ = some (.int .i32 (q : Int)) ∧ X.cell? ⟨gw, q, none⟩ = some (.slice AW M cw) from fun X b => ⟨(b.cell (lt_of_cell c1d)).trans c1d, (b.cell (lt_of_cell y0)).trans y0, (b.cell (lt_of_cell y1)).trans y1, (b.cell (lt_of_cell w2)).trans w2⟩)
        go_wp2_with fail
        refine region_last (S := fun w' => w'.cell? ⟨p, 1, none⟩ = some (.slice (some ⟨gw, 0, none⟩) N N) ∧ w'.cell? ⟨gl, 0, none⟩ = some (.int .i32 (first : Int)) ∧ w'.cell? ⟨gl, 1, none⟩ = some (.int .i32 (q : Int)) ∧ w'.cell? ⟨gw, q, none⟩ = some (.slice AW M cw)) (by kernel_rfl) (by rfl) (by rfl) (by kernel_rfl) ⟨c1d, y0, y1, w2⟩ (fun hHeld => ?_)
        generalize W3.drew = w0 at *
        have KA := Lib.hid (KB.out (w0.alloc (.cells #[.int .i32 (k : Int), .int .i32 (first : Int)] 211)) ((Below.refl _ _).alloc (Nat.le_refl _) _))
        simp only [List.pop_toArray, List.dropLast_cons_cons, List.dropLast_singleton]
        refine wpAnyH_take (i := 0) (v := ?v1) rfl (by kernel_rfl) (by kernel_rfl) (by kernel_rfl) (fun _ _ _ h => h) (Or.inl ⟨by rfl, ?hy1⟩) (by assumption) ?rest1
        case hy1 => (intro w hSw; (try dsimp only at hSw); go_simp; try with_reducible rfl)
        (try simp only [Act.put, List.setIfInBounds_toArray, List.set_cons_zero, List.set_cons_succ])
        refine wpAnyH_take (i := 1) (v := ?v2) rfl (by kernel_rfl) (by kernel_rfl) (by kernel_rfl) (fun _ _ _ h => h) (Or.inl ⟨by rfl, ?hy2⟩) (by assumption) ?rest2
        case hy2 => (intro w hSw; (try dsimp only at hSw); go_simp; try with_reducible rfl)
        (try simp only [Act.put, List.setIfInBounds_toArray, List.set_cons_zero, List.set_cons_succ])
        refine wpAnyH_take (i := 2) (v := ?v3) rfl (by kernel_rfl) (by kernel_rfl) (by kernel_rfl) (fun _ _ _ h => h) (Or.inl ⟨by rfl, ?hy3⟩) (by assumption) ?rest3
        case hy3 => (intro w hSw; (try dsimp only at hSw); go_simp; try with_reducible rfl)
        (try simp only [Act.put, List.setIfInBounds_toArray, List.set_cons_zero, List.set_cons_succ])
        refine wpAnyH_take (i := 3) (v := ?v4) rfl (by kernel_rfl) (by kernel_rfl) (by kernel_rfl) (fun _ _ _ h => h) (Or.inl ⟨by rfl, ?hy4⟩) (by assumption) ?rest4
        case hy4 => (intro w hSw; (try dsimp only at hSw); go_simp; try with_reducible rfl)
        (try simp only [Act.put, List.setIfInBounds_toArray, List.set_cons_zero, List.set_cons_succ])
        refine wpAnyH_take (i := 4) (v := ?v5) rfl (by kernel_rfl) (by kernel_rfl) (by kernel_rfl) (fun _ _ _ h => h) (Or.inl ⟨by rfl, ?hy5⟩) (by assumption) ?rest5
        case hy5 => (intro w hSw; (try dsimp only at hSw); go_simp; try with_reducible rfl)
        (try simp only [Act.put, List.setIfInBounds_toArray, List.set_cons_zero, List.set_cons_succ])
        refine wpAnyH_take (i := 5) (v := ?v6) rfl (by kernel_rfl) (by kernel_rfl) (by kernel_rfl) (fun _ _ _ h => h) (Or.inl ⟨by rfl, ?hy6⟩) (by assumption) ?rest6
        case hy6 => (intro w hSw; (try dsimp only at hSw); go_simp; try with_reducible rfl)
        (try simp only [Act.put, List.setIfInBounds_toArray, List.set_cons_zero, List.set_cons_succ])
        refine wpAnyH_take (i := 6) (v := ?v7) rfl (by kernel_rfl) (by kernel_rfl) (by kernel_rfl) (fun _ _ _ h => h) (Or.inl ⟨by rfl, ?hy7⟩) (by assumption) ?rest7
        case hy7 => (intro w hSw; (try dsimp only at hSw); go_simp; try with_reducible rfl)
        (try simp only [Act.put, List.setIfInBounds_toArray, List.set_cons_zero, List.set_cons_succ])
        refine wpAnyH_take (i := 7) (v := ?v8) rfl (by kernel_rfl) (by kernel_rfl) (by kernel_rfl) (fun _ _ _ h => h) (Or.inl ⟨by rfl, ?hy8⟩) (by assumption) ?rest8
        case hy8 => (intro w hSw; (try dsimp only at hSw); go_simp; try with_reducible rfl)
        (try simp only [Act.put, List.setIfInBounds_toArray, List.set_cons_zero, List.set_cons_succ])
        refine wpAnyH_take (i := 8) (v := ?v9) rfl (by kernel_rfl) (by kernel_rfl) (by kernel_rfl) (fun _ _ _ h => h) (Or.inl ⟨by rfl, ?hy9⟩) (by assumption) ?rest9
        case hy9 => (intro w hSw; (try dsimp only at hSw); go_simp; try with_reducible rfl)
        (try simp only [Act.put, List.setIfInBounds_toArray, List.set_cons_zero, List.set_cons_succ])
        refine wpAnyH_take (i := 9) (v := ?v10) rfl (by kernel_rfl) (by kernel_rfl) (by kernel_rfl) (fun _ _ _ h => h) (Or.inl ⟨by rfl, ?hy10⟩) (by assumption) ?rest10
        case hy10 => (intro w hSw; (try dsimp only at hSw); go_simp; try with_reducible rfl)
        (try simp only [Act.put, List.setIfInBounds_toArray, List.set_cons_zero, List.set_cons_succ])
        refine wpAnyH_take (i := 10) (v := ?v11) rfl (by kernel_rfl) (by kernel_rfl) (by kernel_rfl) (fun _ _ _ h => h) (Or.inl ⟨by rfl, ?hy11⟩) (by assumption) ?rest11
        case hy11 => (intro w hSw; (try dsimp only at hSw); go_simp; try with_reducible rfl)
        (try simp only [Act.put, List.setIfInBounds_toArray, List.set_cons_zero, List.set_cons_succ])
        refine wpAnyH_take (i := 11) (v := ?v12) rfl (by kernel_rfl) (by kernel_rfl) (by kernel_rfl) (fun _ _ _ h => h) (Or.inl ⟨by rfl, ?hy12⟩) (by assumption) ?rest12
        case hy12 => (intro w hSw; (try dsimp only at hSw); go_simp; try with_reducible rfl)
        (try simp only [Act.put, List.setIfInBounds_toArray, List.set_cons_zero, List.set_cons_succ])
        refine wpAnyH_take (i := 12) (v := ?v13) rfl (by kernel_rfl) (by kernel_rfl) (by kernel_rfl) (fun _ _ _ h => h) (Or.inl ⟨by rfl, ?hy13⟩) (by assumption) ?rest13
        case hy13 => (intro w hSw; (try dsimp only at hSw); go_simp; try with_reducible rfl)
        (try simp only [Act.put, List.setIfInBounds_toArray, List.set_cons_zero, List.set_cons_succ])
        refine wpAnyH_take (i := 13) (v := ?v14) rfl (by kernel_rfl) (by kernel_rfl) (by kernel_rfl) (fun _ _ _ h => h) (Or.inl ⟨by rfl, ?hy14⟩) (by assumption) ?rest14
        case hy14 => (intro w hSw; (try dsimp only at hSw); go_simp; try with_reducible rfl)
        (try simp only [Act.put, List.setIfInBounds_toArray, List.set_cons_zero, List.set_cons_succ])
        refine wpAnyH_take (i := 14) (v := ?v15) rfl (by kernel_rfl) (by kernel_rfl) (by kernel_rfl) (fun _ _ _ h => h) (Or.inl ⟨by rfl, ?hy15⟩) (by assumption) ?rest15
        case hy15 => (intro w hSw; (try dsimp only at hSw); go_simp; try with_reducible rfl)
        (try simp only [Act.put, List.setIfInBounds_toArray, List.set_cons_zero, List.set_cons_succ])
        refine wpAnyH_take (i := 15) (v := ?v16) rfl (by kernel_rfl) (by kernel_rfl) (by kernel_rfl) (fun _ _ _ h => h) (Or.inl ⟨by rfl, ?hy16⟩) (by assumption) ?rest16
        case hy16 => (intro w hSw; (try dsimp only at hSw); go_simp; try with_reducible rfl)
        (try simp only [Act.put, List.setIfInBounds_toArray, List.set_cons_zero, List.set_cons_succ])
        refine wpAnyH_take (i := 16) (v := ?v17) rfl (by kernel_rfl) (by kernel_rfl) (by kernel_rfl) (fun _ _ _ h => h) (Or.inl ⟨by rfl, ?hy17⟩) (by assumption) ?rest17
        case hy17 => (intro w hSw; (try dsimp only at hSw); go_simp; try with_reducible rfl)
        (try simp only [Act.put, List.setIfInBounds_toArray, List.set_cons_zero, List.set_cons_succ])
        refine wpAnyH_take (i := 17) (v := ?v18) rfl (by kernel_rfl) (by kernel_rfl) (by kernel_rfl) (fun _ _ _ h => h) (Or.inl ⟨by rfl, ?hy18⟩) (by assumption) ?rest18
        case hy18 => (intro w hSw; (try dsimp only at hSw); go_simp; try with_reducible rfl)
        (try simp only [Act.put, List.setIfInBounds_toArray, List.set_cons_zero, List.set_cons_succ])
        refine wpAnyH_take (i := 18) (v := ?v19) rfl (by kernel_rfl) (by kernel_rfl) (by kernel_rfl) (fun _ _ _ h => h) (Or.inl ⟨by rfl, ?hy19⟩) (by assumption) ?rest19
        case hy19 => (intro w hSw; (try dsimp only at hSw); go_simp; try with_reducible rfl)
        (try simp only [Act.put, List.setIfInBounds_toArray, List.set_cons_zero, List.set_cons_succ])
        refine wpAnyH_take (i := 19) (v := ?v20) rfl (by kernel_rfl) (by kernel_rfl) (by kernel_rfl) (fun _ _ _ h => h) (Or.inl ⟨by rfl, ?hy20⟩) (by assumption) ?rest20
        case hy20 => (intro w hSw; (try dsimp only at hSw); go_simp; try with_reducible rfl)
        (try simp only [Act.put, List.setIfInBounds_toArray, List.set_cons_zero, List.set_cons_succ])
        refine wpAnyH_take (i := 20) (v := ?v21) rfl (by kernel_rfl) (by kernel_rfl) (by kernel_rfl) (fun _ _ _ h => h) (Or.inl ⟨by rfl, ?hy21⟩) (by assumption) ?rest21
        case hy21 => (intro w hSw; (try dsimp only at hSw); go_simp; try with_reducible rfl)
        (try simp only [Act.put, List.setIfInBounds_toArray, List.set_cons_zero, List.set_cons_succ])
        refine wpAnyH_ready (rs := [21]) (by kernel_rfl) (by simp) ?_
        refine AllReadyH.cons rfl (fun K hK => ?_) ?_
        · skip
          go_simp
          refine hK.out _ _ ?_ (fun hHeld => ?_)
          · exact KA.out
          clear hK K
          (try simp only [Act.put, List.setIfInBounds_toArray, List.set_cons_zero, List.set_cons_succ])
          refine wpAnyH_ready (rs := [22]) (by kernel_rfl) (by simp) ?_
          refine AllReadyH.cons rfl (fun K hK => ?_) ?_
          · skip
            refine step_append_lies _ (by rfl) _ _ _ (by rfl) 0 211 i0 _ 2 8 Tryz.underlying209 HI.out.1 HI.out.2.1 HI.out.2.2.1 HI.out.2.2.2 rfl (by omega) (.slice AW M cw) M (watCells (dd.F q)) (by rfl) (by exact row_same ((by have := HO.out; rw [show (Sd.moved dd k c1 j q gone).F = dd.F from rfl, HM.out] at this; exact this : w0.ownsRow 0 211 2 (.slice AW M cw) M (watCells (dd.F q))).alloc _) rfl) ⟨w0.heap.size, 0, none⟩ 1 1 [.int .i32 (k : Int), .int .i32 (first : Int)] (by rfl) (by rfl) (by exact World.news_of_block (cs := #[.int .i32 (k : Int), .int .i32 (first : Int)]) (t := 211) (fr := (0, 0)) (new_at (W := w0) rfl rfl)) (by simp [Value.oneCell']) (by omega) (by unfold maxLen; omega) (by omega) (Nat.zero_le _) (w0.heap.size + 1) (by simp) ?_
            intro g1 cp wp hown1 hg1 hat1 hlt1
            have HX := FIN.out wp cp g1 (by rw [show (Sd.moved dd k c1 j q gone).F = dd.F from rfl, HM.out]; exact grown_alike hg1 rfl rfl rfl rfl) (by rw [show (Sd.moved dd k c1 j q gone).F = dd.F from rfl, HM.out]; exact hown1) (by rw [show (Sd.moved dd k c1 j q gone).F = dd.F from rfl, HM.out]; exact hat1)
            rw [show (Sd.moved dd k c1 j q gone).F = dd.F from rfl, HM.out] at HX
            have c9 := HX.1.1
            have r9 := HX.1.2.1
            have c1' : wp.cell? ⟨p, 1, none⟩ = some (.slice (some ⟨gw, 0, none⟩) N N) := (by rw [← HN.out]; exact HX.1.2.2)
            have d0 : wp.cell? ⟨gl, 0, none⟩ = some (.int .i32 (first : Int)) := ((World.cell?_of_block (hg1.block gl (by simp; omega) (fun e => HRO.out gl (by rw [HM.out]; exact e.symm) rfl))).trans ((World.cell?_of_block (alloc_other zl)).trans y0))
            have d1 : wp.cell? ⟨gl, 1, none⟩ = some (.int .i32 (q : Int)) := ((World.cell?_of_block (hg1.block gl (by simp; omega) (fun e => HRO.out gl (by rw [HM.out]; exact e.symm) rfl))).trans ((World.cell?_of_block (alloc_other zl)).trans y1))
            have zl' : gl < wp.heap.size := Nat.lt_of_lt_of_le (by simp; omega) hg1.size
            have HFF := Lib.hid HX.2
            clear hown1 hg1 hat1 hlt1 HX
            refine hK.out _ _ ?_ (fun hHeld => ?_)
            · exact ⟨c1', d0, d1, c9⟩
            clear hK K
            (try simp only [Act.put, List.setIfInBounds_toArray, List.set_cons_zero, List.set_cons_succ])
            refine wpAnyH_take (i := 23) (v := ?v22) rfl (by kernel_rfl) (by kernel_rfl) (by kernel_rfl) (fun _ _ _ h => h) (Or.inl ⟨by rfl, ?hy22⟩) (by assumption) ?rest22
            case hy22 => (intro w hSw; (try dsimp only at hSw); go_simp; try with_reducible rfl)
            (try simp only [Act.put, List.setIfInBounds_toArray, List.set_cons_zero, List.set_cons_succ])
            refine wpAnyH_done (by kernel_rfl) ?_ _
            show Oper.wp _ _ _ _ _ _
            simp only [List.getElem_toArray, List.getElem_cons_succ, List.getElem_cons_zero]
            go_simp
            obtain ⟨τ3, r3, t3⟩ := HFF.out
            have HE := Lib.hid (HEND.out _ _ r3 t3)
            clear r3 t3 HFF
            go_wp2_with fail
            go_ret2
            exact HE.out _ rfl rfl rfl rfl
          exact AllReadyH.nil
        exact AllReadyH.nil
    · have R := Lib.hid (R.out.below B2.out)
      have T := Lib.hid (T.out.trans (Stp.of_below τ B2.out))
      have CA := Lib.hid (CA.out.step (R := fun _ => False) zp (Step.of_below _ τ B2.out) id id id)
      have x0 : W2.cell? ⟨gl, 0, none⟩ = some (.int .i32 (first : Int)) := (B2.out.cell (p := ⟨gl, 0, none⟩) zl).trans x0
      have fl := CA.out.lit
      have zl := CA.out.llt
      have zp := R.out.plt
      have fa := CA.out.head
      clear CL1 CL2 B1 B2 za xf z2 f2 xfr
      have f2 : True := trivial
      have xfr : True := trivial
      have hj2 : 2 ≤ j := by omega
      have hjl : j < c1.ls.length := by omega
      have hqn := HLS.out q (List.mem_of_getElem? hjq)
      have HF := Lib.hid (show ∀ e w', MvYes B τ w p n dd k c1 gone first e w' → MvPost B τ w p n dd k c1 gone first e w' from fun e w' h => .inr h)
      have P1 := R.out.put_fr CA.out HK.out (j : Int)
      have CA1 := CA.out.put_fr (j : Int)
      have hk1 : ({ dd with cls := dd.cls.set k { c1 with fr := (j : Int) } } : Sd).cls[k]? = some { c1 with fr := (j : Int) } := List.getElem?_set_self hkl
      have P2 := P1.1.put_lit CA1 hk1 (i := 1) (by show 1 < c1.ls.length; omega) q
      have CA2 := CA1.put_lit (i := 1) (x := q) (by show 1 < c1.ls.length; omega)
      have hk2 : ({ dd with cls := (dd.cls.set k { c1 with fr := (j : Int) }).set k { c1 with fr := (j : Int), ls := c1.ls.set 1 q } } : Sd).cls[k]? = some { c1 with fr := (j : Int), ls := c1.ls.set 1 q } := List.getElem?_set_self (by rw [List.length_set]; exact hkl)
      have P3 := P2.1.put_lit CA2 hk2 (i := j) (by show j < (c1.ls.set 1 q).length; rw [List.length_set]; omega) gone
      have CA3 := CA2.put_lit (i := j) (x := gone) (by show j < (c1.ls.set 1 q).length; rw [List.length_set]; omega)
      have R3 := Lib.hid (show Sr B τ (((W2.setCell ⟨ga, k * 3 + 2, none⟩ (.int .i64 (j : Int))).setCell ⟨gl, 1, none⟩ (.int .i32 (q : Int))).setCell ⟨gl, j, none⟩ (.int .i32 (gone : Int))) p n (Sd.moved dd k c1 j q gone) by
        have := P3.1
        simp only [List.set_set] at this
        exact this)
      have T3 := Lib.hid (((T.out.trans P1.2).trans P2.2).trans P3.2)
      have HC3 := Lib.hid CA3
      have xj : W2.cell? ⟨gl, j, none⟩ = some (.int .i32 (q : Int)) := CA.out.cell j q hjq
      have x1l : W2.cell? ⟨gl, 1, none⟩ = some (.int .i32 (gone : Int)) := CA.out.cell 1 gone H1.out
      have lf := CA.out.lfree
      have af := CA.out.afree
      have za := CA.out.alt
      have ngl : gl ≠ ga := fun e => by have h1 := CA.out.lrole; have h2 := CA.out.arole; rw [e, h2] at h1; omega
      have ll1 : (1 : Int) < (c1.ls.length : Int) := by omega
      have ll0 : 0 < c1.ls.length := by omega
      have hne0 : ¬ c1.ls = [] := fun e => by rw [e] at ll0; exact Nat.lt_irrefl _ ll0
      have j0 : (0 : Int) ≤ (j : Int) := by omega
      have j1 : (j : Int) < (c1.ls.length : Int) := by omega
      have nj1 : ¬ j = 1 := by omega
      have jm1 : ((j : Int) == -1) = false := beq_eq_false_iff_ne.2 (by omega)
      have x2' : W2.cell? ⟨ga, k * 3 + 2, none⟩ = some (.int .i64 c1.fr) := CA.out.fr
      have HJ := Lib.hid (And.intro hjq (And.intro hyq hy0))
      have HGJ := Lib.hid (show q ≠ (Sd.moved dd k c1 j q gone).gq from HGQ.out j q hj2 hjq)
      clear P1 P2 P3 CA1 CA2 CA3 hk1 hk2 hjq hyq hy0
      go_wp2_with fail
      go_region
      have R4 := Lib.hid (R3.out.alike (W := (((W2.setCell ⟨ga, k * 3 + 2, none⟩ (.int .i64 (j : Int))).setCell ⟨gl, 1, none⟩ (.int .i32 (q : Int))).setCell ⟨gl, j, none⟩ (.int .i32 (gone : Int))).drew) rfl rfl rfl rfl)
      have T4 := Lib.hid (T3.out.alike (W := (((W2.setCell ⟨ga, k * 3 + 2, none⟩ (.int .i64 (j : Int))).setCell ⟨gl, 1, none⟩ (.int .i32 (q : Int))).setCell ⟨gl, j, none⟩ (.int .i32 (gone : Int))).drew) rfl rfl rfl rfl)
      have C4 := Lib.hid (HC3.out.alike (W := (((W2.setCell ⟨ga, k * 3 + 2, none⟩ (.int .i64 (j : Int))).setCell ⟨gl, 1, none⟩ (.int .i32 (q : Int))).setCell ⟨gl, j, none⟩ (.int .i32 (gone : Int))).drew) (by simpa [World.setCell] using zp) rfl rfl rfl rfl)
      generalize (((W2.setCell ⟨ga, k * 3 + 2, none⟩ (.int .i64 (j : Int))).setCell ⟨gl, 1, none⟩ (.int .i32 (q : Int))).setCell ⟨gl, j, none⟩ (.int .i32 (gone : Int))).drew = W3 at *
      clear R T CA R3 T3 HC3 xj x1l lf af za x2' x0 fa fl f2 xfr zp zl
      have zp := R4.out.plt
      have R4 := Lib.hid (R4.out.alike (W := W3.drew) rfl rfl rfl rfl)
      have T4 := Lib.hid (T4.out.alike (W := W3.drew) rfl rfl rfl rfl)
      have C4 := Lib.hid (C4.out.alike (W := W3.drew) R4.out.plt rfl rfl rfl rfl)
      have HEND := Lib.hid (show ∀ (W5 : World) (τ' : Nat → Nat), Sr B τ' W5 p n { Sd.moved dd k c1 j q gone with F := fun r => if r = q then dd.F q ++ [(k, first)] else dd.F r } → Stp τ τ' W3.drew W5 → ∀ W, W.heap = W5.heap → W.os = W5.os → W.tape = W5.tape → W.output = W5.output → MvPost B τ w p n dd k c1 gone first (.returned (.tuple #[.int .i32 (first : Int), .bool true])) W from fun W5 τ' r t W e1 e2 e3 e4 => HF.out _ _ ⟨τ', j, q, _, rfl, hj2, HJ.out.1, HJ.out.2.1, HJ.out.2.2, r.alike e1 e2 e3 e4, (T4.out.trans t).alike e1 e2 e3 e4⟩)
      obtain ⟨gw, AW, cw, hW⟩ := R4.out.wat hqn
      have HW := Lib.hid hW
      have w1 := hW.head
      have w2 : W3.drew.cell? ⟨gw, q, none⟩ = some (.slice AW (dd.F q).length cw) := hW.at_
      have w3 := hW.wfree
      have w4 := hW.wlt
      have y1 : W3.drew.cell? ⟨gl, 1, none⟩ = some (.int .i32 (q : Int)) := C4.out.cell 1 q (by show ((c1.ls.set 1 q).set j gone)[1]? = _; rw [List.getElem?_set_ne nj1]; exact List.getElem?_set_self (by omega))
      have y0 : W3.drew.cell? ⟨gl, 0, none⟩ = some (.int .i32 (first : Int)) := C4.out.cell 0 first (by show ((c1.ls.set 1 q).set j gone)[0]? = _; rw [List.getElem?_set_ne (by omega), List.getElem?_set_ne (by omega)]; exact H0.out)
      have zl := C4.out.llt
      have ngw : gl ≠ gw := fun e => by have h1 := C4.out.lrole; have h2 := hW.wrole; rw [e, h2] at h1; omega
      have FIN := Lib.hid (R4.out.fin_wat hW hqn HGJ.out (k, first))
      have HFL := HFb.out q
      have q0 : (0 : Int) ≤ (q : Int) := by omega
      have q1 : (q : Int) < ((2 * n : Nat) : Int) := by omega
      have HRO := Lib.hid (show ∀ g, Value.ownBlock (.slice AW (dd.F q).length cw) = some g → g ≠ gl from fun g hg e => by have h1 := hW.role g hg; have h2 := C4.out.lrole; rw [e, h2] at h1; omega)
      obtain ⟨i0, hi0, hz0, hz1, hz2⟩ := info_parts infoWat
      have HI := Lib.hid (show _ ∧ _ ∧ _ ∧ _ from ⟨hi0, hz0, hz1, hz2⟩)
      have HO := Lib.hid hW.own
      clear hW hi0 hz0 hz1 hz2
      obtain ⟨N, hN⟩ : ∃ N, 2 * n = N := ⟨_, rfl⟩
      rw [hN] at w1 q1
      obtain ⟨M, hM⟩ : ∃ M, (dd.F q).length = M := ⟨_, rfl⟩
      rw [hM] at w2 HFL
      have HN := Lib.hid hN
      have HM := Lib.hid hM
      clear hN hM
      have c1d : W3.drew.cell? ⟨p, 1, none⟩ = some (.slice (some ⟨gw, 0, none⟩) N N) := w1
      have KB := Lib.hid (show ∀ X, Below W3.drew.heap.size W3.drew X → X.cell? ⟨p, 1, none⟩ = some (.slice (some ⟨gw, 0, none⟩) N N) ∧ X.cell? ⟨gl, 0, none⟩ = some (.int .i32 (first : Int)) ∧ X.cell? ⟨gl, 1, none⟩ = some (.int .i32 (q : Int)) ∧ X.cell? ⟨gw, q, none⟩ = some (.slice AW M cw) from fun X b => ⟨(b.cell (lt_of_cell c1d)).trans c1d, (b.cell (lt_of_cell y0)).trans y0, (b.cell (lt_of_cell y1)).trans y1, (b.cell (lt_of_cell w2)).trans w2⟩)
      go_wp2_with fail
      refine region_last (S := fun w' => w'.cell? ⟨p, 1, none⟩ = some (.slice (some ⟨gw, 0, none⟩) N N) ∧ w'.cell? ⟨gl, 0, none⟩ = some (.int .i32 (first : Int)) ∧ w'.cell? ⟨gl, 1, none⟩ = some (.int .i32 (q : Int)) ∧ w'.cell? ⟨gw, q, none⟩ = some (.slice AW M cw)) (by kernel_rfl) (by rfl) (by rfl) (by kernel_rfl) ⟨c1d, y0, y1, w2⟩ (fun hHeld => ?_)
      generalize W3.drew = w0 at *
      have KA := Lib.hid (KB.out (w0.alloc (.cells #[.int .i32 (k : Int), .int .i32 (first : Int)] 211)) ((Below.refl _ _).alloc (Nat.le_refl _) _))
      simp only [List.pop_toArray, List.dropLast_cons_cons, List.dropLast_singleton]
      refine wpAnyH_take (i := 0) (v := ?v23) rfl (by kernel_rfl) (by kernel_rfl) (by kernel_rfl) (fun _ _ _ h => h) (Or.inl ⟨by rfl, ?hy23⟩) (by assumption) ?rest23
      case hy23 => (intro w hSw; (try dsimp only at hSw); go_simp; try with_reducible rfl)
      (try simp only [Act.put, List.setIfInBounds_toArray, List.set_cons_zero, List.set_cons_succ])
      refine wpAnyH_take (i := 1) (v := ?v24) rfl (by kernel_rfl) (by kernel_rfl) (by kernel_rfl) (fun _ _ _ h => h) (Or.inl ⟨by rfl, ?hy24⟩) (by assumption) ?rest24
      case hy24 => (intro w hSw; (try dsimp only at hSw); go_simp; try with_reducible rfl)
      (try simp only [Act.put, List.setIfInBounds_toArray, List.set_cons_zero, List.set_cons_succ])
      refine wpAnyH_take (i := 2) (v := ?v25) rfl (by kernel_rfl) (by kernel_rfl) (by kernel_rfl) (fun _ _ _ h => h) (Or.inl ⟨by rfl, ?hy25⟩) (by assumption) ?rest25
      case hy25 => (intro w hSw; (try dsimp only at hSw); go_simp; try with_reducible rfl)
      (try simp only [Act.put, List.setIfInBounds_toArray, List.set_cons_zero, List.set_cons_succ])
      refine wpAnyH_take (i := 3) (v := ?v26) rfl (by kernel_rfl) (by kernel_rfl) (by kernel_rfl) (fun _ _ _ h => h) (Or.inl ⟨by rfl, ?hy26⟩) (by assumption) ?rest26
      case hy26 => (intro w hSw; (try dsimp only at hSw); go_simp; try with_reducible rfl)
      (try simp only [Act.put, List.setIfInBounds_toArray, List.set_cons_zero, List.set_cons_succ])
      refine wpAnyH_take (i := 4) (v := ?v27) rfl (by kernel_rfl) (by kernel_rfl) (by kernel_rfl) (fun _ _ _ h => h) (Or.inl ⟨by rfl, ?hy27⟩) (by assumption) ?rest27
      case hy27 => (intro w hSw; (try dsimp only at hSw); go_simp; try with_reducible rfl)
      (try simp only [Act.put, List.setIfInBounds_toArray, List.set_cons_zero, List.set_cons_succ])
      refine wpAnyH_take (i := 5) (v := ?v28) rfl (by kernel_rfl) (by kernel_rfl) (by kernel_rfl) (fun _ _ _ h => h) (Or.inl ⟨by rfl, ?hy28⟩) (by assumption) ?rest28
      case hy28 => (intro w hSw; (try dsimp only at hSw); go_simp; try with_reducible rfl)
      (try simp only [Act.put, List.setIfInBounds_toArray, List.set_cons_zero, List.set_cons_succ])
      refine wpAnyH_take (i := 6) (v := ?v29) rfl (by kernel_rfl) (by kernel_rfl) (by kernel_rfl) (fun _ _ _ h => h) (Or.inl ⟨by rfl, ?hy29⟩) (by assumption) ?rest29
      case hy29 => (intro w hSw; (try dsimp only at hSw); go_simp; try with_reducible rfl)
      (try simp only [Act.put, List.setIfInBounds_toArray, List.set_cons_zero, List.set_cons_succ])
      refine wpAnyH_take (i := 7) (v := ?v30) rfl (by kernel_rfl) (by kernel_rfl) (by kernel_rfl) (fun _ _ _ h => h) (Or.inl ⟨by rfl, ?hy30⟩) (by assumption) ?rest30
      case hy30 => (intro w hSw; (try dsimp only at hSw); go_simp; try with_reducible rfl)
      (try simp only [Act.put, List.setIfInBounds_toArray, List.set_cons_zero, List.set_cons_succ])
      refine wpAnyH_take (i := 8) (v := ?v31) rfl (by kernel_rfl) (by kernel_rfl) (by kernel_rfl) (fun _ _ _ h => h) (Or.inl ⟨by rfl, ?hy31⟩) (by assumption) ?rest31
      case hy31 => (intro w hSw; (try dsimp only at hSw); go_simp; try with_reducible rfl)
      (try simp only [Act.put, List.setIfInBounds_toArray, List.set_cons_zero, List.set_cons_succ])
      refine wpAnyH_take (i := 9) (v := ?v32) rfl (by kernel_rfl) (by kernel_rfl) (by kernel_rfl) (fun _ _ _ h => h) (Or.inl ⟨by rfl, ?hy32⟩) (by assumption) ?rest32
      case hy32 => (intro w hSw; (try dsimp only at hSw); go_simp; try with_reducible rfl)
      (try simp only [Act.put, List.setIfInBounds_toArray, List.set_cons_zero, List.set_cons_succ])
      refine wpAnyH_take (i := 10) (v := ?v33) rfl (by kernel_rfl) (by kernel_rfl) (by kernel_rfl) (fun _ _ _ h => h) (Or.inl ⟨by rfl, ?hy33⟩) (by assumption) ?rest33
      case hy33 => (intro w hSw; (try dsimp only at hSw); go_simp; try with_reducible rfl)
      (try simp only [Act.put, List.setIfInBounds_toArray, List.set_cons_zero, List.set_cons_succ])
      refine wpAnyH_take (i := 11) (v := ?v34) rfl (by kernel_rfl) (by kernel_rfl) (by kernel_rfl) (fun _ _ _ h => h) (Or.inl ⟨by rfl, ?hy34⟩) (by assumption) ?rest34
      case hy34 => (intro w hSw; (try dsimp only at hSw); go_simp; try with_reducible rfl)
      (try simp only [Act.put, List.setIfInBounds_toArray, List.set_cons_zero, List.set_cons_succ])
      refine wpAnyH_take (i := 12) (v := ?v35) rfl (by kernel_rfl) (by kernel_rfl) (by kernel_rfl) (fun _ _ _ h => h) (Or.inl ⟨by rfl, ?hy35⟩) (by assumption) ?rest35
      case hy35 => (intro w hSw; (try dsimp only at hSw); go_simp; try with_reducible rfl)
      (try simp only [Act.put, List.setIfInBounds_toArray, List.set_cons_zero, List.set_cons_succ])
      refine wpAnyH_take (i := 13) (v := ?v36) rfl (by kernel_rfl) (by kernel_rfl) (by kernel_rfl) (fun _ _ _ h => h) (Or.inl ⟨by rfl, ?hy36⟩) (by assumption) ?rest36
      case hy36 => (intro w hSw; (try dsimp only at hSw); go_simp; try with_reducible rfl)
      (try simp only [Act.put, List.setIfInBounds_toArray, List.set_cons_zero, List.set_cons_succ])
      refine wpAnyH_take (i := 14) (v := ?v37) rfl (by kernel_rfl) (by kernel_rfl) (by kernel_rfl) (fun _ _ _ h => h) (Or.inl ⟨by rfl, ?hy37⟩) (by assumption) ?rest37
      case hy37 => (intro w hSw; (try dsimp only at hSw); go_simp; try with_reducible rfl)
      (try simp only [Act.put, List.setIfInBounds_toArray, List.set_cons_zero, List.set_cons_succ])
      refine wpAnyH_take (i := 15) (v := ?v38) rfl (by kernel_rfl) (by kernel_rfl) (by kernel_rfl) (fun _ _ _ h => h) (Or.inl ⟨by rfl, ?hy38⟩) (by assumption) ?rest38
      case hy38 => (intro w hSw; (try dsimp only at hSw); go_simp; try with_reducible rfl)
      (try simp only [Act.put, List.setIfInBounds_toArray, List.set_cons_zero, List.set_cons_succ])
      refine wpAnyH_take (i := 16) (v := ?v39) rfl (by kernel_rfl) (by kernel_rfl) (by kernel_rfl) (fun _ _ _ h => h) (Or.inl ⟨by rfl, ?hy39⟩) (by assumption) ?rest39
      case hy39 => (intro w hSw; (try dsimp only at hSw); go_simp; try with_reducible rfl)
      (try simp only [Act.put, List.setIfInBounds_toArray, List.set_cons_zero, List.set_cons_succ])
      refine wpAnyH_take (i := 17) (v := ?v40) rfl (by kernel_rfl) (by kernel_rfl) (by kernel_rfl) (fun _ _ _ h => h) (Or.inl ⟨by rfl, ?hy40⟩) (by assumption) ?rest40
      case hy40 => (intro w hSw; (try dsimp only at hSw); go_simp; try with_reducible rfl)
      (try simp only [Act.put, List.setIfInBounds_toArray, List.set_cons_zero, List.set_cons_succ])
      refine wpAnyH_take (i := 18) (v := ?v41) rfl (by kernel_rfl) (by kernel_rfl) (by kernel_rfl) (fun _ _ _ h => h) (Or.inl ⟨by rfl, ?hy41⟩) (by assumption) ?rest41
      case hy41 => (intro w hSw; (try dsimp only at hSw); go_simp; try with_reducible rfl)
      (try simp only [Act.put, List.setIfInBounds_toArray, List.set_cons_zero, List.set_cons_succ])
      refine wpAnyH_take (i := 19) (v := ?v42) rfl (by kernel_rfl) (by kernel_rfl) (by kernel_rfl) (fun _ _ _ h => h) (Or.inl ⟨by rfl, ?hy42⟩) (by assumption) ?rest42
      case hy42 => (intro w hSw; (try dsimp only at hSw); go_simp; try with_reducible rfl)
      (try simp only [Act.put, List.setIfInBounds_toArray, List.set_cons_zero, List.set_cons_succ])
      refine wpAnyH_take (i := 20) (v := ?v43) rfl (by kernel_rfl) (by kernel_rfl) (by kernel_rfl) (fun _ _ _ h => h) (Or.inl ⟨by rfl, ?hy43⟩) (by assumption) ?rest43
      case hy43 => (intro w hSw; (try dsimp only at hSw); go_simp; try with_reducible rfl)
      (try simp only [Act.put, List.setIfInBounds_toArray, List.set_cons_zero, List.set_cons_succ])
      refine wpAnyH_ready (rs := [21]) (by kernel_rfl) (by simp) ?_
      refine AllReadyH.cons rfl (fun K hK => ?_) ?_
      · skip
        go_simp
        refine hK.out _ _ ?_ (fun hHeld => ?_)
        · exact KA.out
        clear hK K
        (try simp only [Act.put, List.setIfInBounds_toArray, List.set_cons_zero, List.set_cons_succ])
        refine wpAnyH_ready (rs := [22]) (by kernel_rfl) (by simp) ?_
        refine AllReadyH.cons rfl (fun K hK => ?_) ?_
        · skip
          refine step_append_lies _ (by rfl) _ _ _ (by rfl) 0 211 i0 _ 2 8 Tryz.underlying209 HI.out.1 HI.out.2.1 HI.out.2.2.1 HI.out.2.2.2 rfl (by omega) (.slice AW M cw) M (watCells (dd.F q)) (by rfl) (by exact row_same ((by have := HO.out; rw [show (Sd.moved dd k c1 j q gone).F = dd.F from rfl, HM.out] at this; exact this : w0.ownsRow 0 211 2 (.slice AW M cw) M (watCells (dd.F q))).alloc _) rfl) ⟨w0.heap.size, 0, none⟩ 1 1 [.int .i32 (k : Int), .int .i32 (first : Int)] (by rfl) (by rfl) (by exact World.news_of_block (cs := #[.int .i32 (k : Int), .int .i32 (first : Int)]) (t := 211) (fr := (0, 0)) (new_at (W := w0) rfl rfl)) (by simp [Value.oneCell']) (by omega) (by unfold maxLen; omega) (by omega) (Nat.zero_le _) (w0.heap.size + 1) (by simp) ?_
          intro g1 cp wp hown1 hg1 hat1 hlt1
          have HX := FIN.out wp cp g1 (by rw [show (Sd.moved dd k c1 j q gone).F = dd.F from rfl, HM.out]; exact grown_alike hg1 rfl rfl rfl rfl) (by rw [show (Sd.moved dd k c1 j q gone).F = dd.F from rfl, HM.out]; exact hown1) (by rw [show (Sd.moved dd k c1 j q gone).F = dd.F from rfl, HM.out]; exact hat1)
          rw [show (Sd.moved dd k c1 j q gone).F = dd.F from rfl, HM.out] at HX
          have c9 := HX.1.1
          have r9 := HX.1.2.1
          have c1' : wp.cell? ⟨p, 1, none⟩ = some (.slice (some ⟨gw, 0, none⟩) N N) := (by rw [← HN.out]; exact HX.1.2.2)
          have d0 : wp.cell? ⟨gl, 0, none⟩ = some (.int .i32 (first : Int)) := ((World.cell?_of_block (hg1.block gl (by simp; omega) (fun e => HRO.out gl (by rw [HM.out]; exact e.symm) rfl))).trans ((World.cell?_of_block (alloc_other zl)).trans y0))
          have d1 : wp.cell? ⟨gl, 1, none⟩ = some (.int .i32 (q : Int)) := ((World.cell?_of_block (hg1.block gl (by simp; omega) (fun e => HRO.out gl (by rw [HM.out]; exact e.symm) rfl))).trans ((World.cell?_of_block (alloc_other zl)).trans y1))
          have zl' : gl < wp.heap.size := Nat.lt_of_lt_of_le (by simp; omega) hg1.size
          have HFF := Lib.hid HX.2
          clear hown1 hg1 hat1 hlt1 HX
          refine hK.out _ _ ?_ (fun hHeld => ?_)
          · exact ⟨c1', d0, d1, c9⟩
          clear hK K
          (try simp only [Act.put, List.setIfInBounds_toArray, List.set_cons_zero, List.set_cons_succ])
          refine wpAnyH_take (i := 23) (v := ?v44) rfl (by kernel_rfl) (by kernel_rfl) (by kernel_rfl) (fun _ _ _ h => h) (Or.inl ⟨by rfl, ?hy44⟩) (by assumption) ?rest44
          case hy44 => (intro w hSw; (try dsimp only at hSw); go_simp; try with_reducible rfl)
          (try simp only [Act.put, List.setIfInBounds_toArray, List.set_cons_zero, List.set_cons_succ])
          refine wpAnyH_done (by kernel_rfl) ?_ _
          show Oper.wp _ _ _ _ _ _
          simp only [List.getElem_toArray, List.getElem_cons_succ, List.getElem_cons_zero]
          go_simp
          obtain ⟨τ3, r3, t3⟩ := HFF.out
          have HE := Lib.hid (HEND.out _ _ r3 t3)
          clear r3 t3 HFF
          go_wp2_with fail
          go_ret2
          exact HE.out _ rfl rfl rfl rfl
        exact AllReadyH.nil
      exact AllReadyH.nil
end
end Go.Proofs.YtpmdnbdmocdngaaGreat
