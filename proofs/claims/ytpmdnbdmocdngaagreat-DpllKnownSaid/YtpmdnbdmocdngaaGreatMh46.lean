/-
  Parts of the proof, joined: DpllGg.
-/
import Derived.Test.YtpmdnbdmocdngaaGreatMh33
import Derived.Test.YtpmdnbdmocdngaaGreatMh45

namespace Go.Proofs.YtpmdnbdmocdngaaGreat
open Go.ChangeShapes Go.WideShapes Go.ChangeAt Go.RowKit
set_option linter.unusedVariables false
set_option linter.unusedSimpArgs false

section
variable {B : Nat} {τ : Nat → Nat} {w w' : World} {p n : Nat} {d : Sd} {K0 : Nat → Prop} {Mo : (Nat → Bool) → Prop}
/-- All decisions are taken back. -/
theorem over_back (h : Sr B τ w p n d) (R : Ru n K0 Mo d) :
    Calls Tryz.prog 98 #[ptr p, .int .i64 0] w fun e w' => e = .returned (.tuple #[]) ∧ ∃ τ1 d1, Sr B τ1 w' p n d1 ∧ Stp τ τ1 w w' ∧ Ru n K0 Mo d1 ∧ d1.ma = [] ∧ d1.cls = d.cls ∧ d1.pc = d.pc ∧ d1.pt = d.pt ∧ d1.pu = d.pu ∧ d1.le = d.le ∧ d1.mo = d.mo := by
  by_cases hm : d.ma = []
  · refine (show Calls _ _ #[ptr p, .int .i64 0] w _ from back_none h R.I.L (m := 0) (by rw [hm]; rfl)).mono ?_
    rintro e w' ⟨rfl, rfl⟩
    exact ⟨rfl, τ, d, h, Stp.refl _ _, R, hm, rfl, rfl, rfl, rfl, rfl, rfl⟩
  · obtain ⟨fr, hfr⟩ : ∃ fr, d.ma[0]? = some fr := ⟨_, List.getElem?_eq_getElem (List.length_pos_iff.2 hm)⟩
    refine (show Calls _ _ #[ptr p, .int .i64 0] w _ from back_any h R.I.L R.Q R.lk R.I.T.tl hfr (R.I.T.mb fr (List.mem_of_getElem? hfr))).mono ?_
    rintro e w' ⟨rfl, τ9, lk9, hp9, pl9, a, b, c, e, f, g⟩
    exact ⟨rfl, τ9, d.back 0 fr lk9 hp9 pl9, a, b, R.over hfr f c e g, rfl, rfl, rfl, rfl, rfl, rfl, rfl⟩
theorem Sr.fresh (h : Sr B τ w p n d) (b : Below w.heap.size w w') : Sr B (fun k => if k < w.heap.size then τ k else 0) w' p n d ∧ Stp τ (fun k => if k < w.heap.size then τ k else 0) w w' := by
  have s : Step (fun _ => False) τ (fun k => if k < w.heap.size then τ k else 0) w w' := ⟨⟨b.os, b.tape, b.output, b.size, fun k hk _ => b.block k hk⟩, fun k hk => if_pos hk⟩
  obtain ⟨pcs, h⟩ := h
  exact ⟨⟨pcs, h.step s (fun _ _ h => h)⟩, Stp.of_step s id⟩
theorem lrn_get {cls : List Cl} {ys : List Int} (hp : ys.Perm (lrn cls cls.length)) : ∀ z ∈ ys, ∃ (k : Nat) (cl : Cl), z = (k : Int) ∧ cls[k]? = some cl ∧ 2 < cl.sp := fun z hz => by
  obtain ⟨i, hi, e, c, hc, h2⟩ := lrn_mem cls cls.length (Nat.le_refl _) z (hp.mem_iff.1 hz)
  exact ⟨i, c, e, hc, h2⟩
/-- From the search without some of its claims to what starting over promises. -/
theorem st_of {d1 : Sd} {τ1 : Nat → Nat} (t1 : Stp τ τ1 w w') (R1 : Ru n K0 Mo d1) (m1 : d1.ma = []) (e1 : d1.cls = d.cls ∧ d1.pc = d.pc ∧ d1.pt = d.pt ∧ d1.pu = d.pu ∧ d1.le = d.le ∧ d1.mo = d.mo) {cls' : List Cl} {F' : Nat → List (Nat × Nat)} {gk : Nat} {gu : Value} {le' : Int} {q L : Nat} (hq : q = L - L / 2) (hL : L ≤ d1.cls.length)
    (W3 : Wt n cls' F') (c3 : ∀ c ∈ cls', c ∈ d1.cls) (c4 : ∀ c ∈ d1.cls, c.sp = 0 → c ∈ cls') (c5 : d1.cls.length ≤ cls'.length + q) (c6 : cls'.length ≤ d1.cls.length) (S : Sr B τ1 w' p n { d1 with cls := cls', F := F', gk := gk, gu := gu, le := le', mo := d.mo + 500 }) (hle : le' = ((L / 2 : Nat) : Int)) :
    StPost B τ w p n K0 Mo d (.returned (.tuple #[])) w' := by
  obtain ⟨x1, x2, x3, x4, x5, x6⟩ := e1
  refine ⟨rfl, τ1, _, S, t1, R1.fewer m1 c3 c6 W3 gk gu _ _, ⟨m1, x2, x3, x4, ?_, .inr ?_, ?_, ?_⟩⟩
  · show (0 : Int) ≤ le'; omega
  · show le' ≤ (cls'.length : Int); omega
  · exact ⟨by show d.mo ≤ d.mo + 500; omega, Int.le_refl _⟩
  · refine ⟨by rw [← x1]; exact c6, fun c hc h0 => ⟨c, c4 c (by rw [x1]; exact hc) h0, h0, List.Perm.refl _⟩⟩
set_option maxHeartbeats 1600000 in
set_option maxRecDepth 4000 in
theorem start_any (h : Sr B τ w p n d) (R : Ru n K0 Mo d) (h0 : 0 ≤ d.le) (hmo : d.mo ≤ 4611686018427387904) (hmo0 : 0 ≤ d.mo) (hne : 0 < d.cls.length) :
    Calls Tryz.prog 101 #[ptr p] w (StPost B τ w p n K0 Mo d) := by
  by_cases hle : d.le ≤ d.mo
  · exact start_small h R h0 hle
  have CB := Lib.hid (over_back h R)
  have hyes : d.mo < d.le := by omega
  clear h R hle
  go_enter Tryz.func101, Tryz.ntmps101
  go_wp2_with fail
  (with_reducible refine CB.out.mono ?_)
  rintro e w1 ⟨rfl, τ1, d1, s1, t1, R1, m1, x1, x2, x3, x4, x5, x6⟩
  have f20 : w1.cell? ⟨p, 20, none⟩ = some (.int .i64 d.le) := by rw [← x5]; exact s1.get_le
  have f21 : w1.cell? ⟨p, 21, none⟩ = some (.int .i64 d.mo) := by rw [← x6]; exact s1.get_mo
  have zp := s1.plt
  have HX := Lib.hid (And.intro x1 (And.intro x2 (And.intro x3 (And.intro x4 (And.intro x5 x6)))))
  have HS := Lib.hid s1
  have HT := Lib.hid t1
  have HR := Lib.hid R1
  have HM := Lib.hid m1
  clear s1 t1 R1 m1 x1 x2 x3 x4 x5 x6 CB
  go_wp2_with fail
  go_quiet (fail)
  have HS2 := Lib.hid (HS.out.below (Below.draws (Below.refl w1.heap.size w1) nq))
  have HT2 := Lib.hid (HT.out.trans (Stp.of_below τ1 (Below.draws (Below.refl w1.heap.size w1) nq)))
  generalize w1.drewN nq = w2 at *
  have zp2 := HS2.out.plt
  have hls : ∀ c ∈ d1.cls, 0 < c.ls.length := fun c hc => by
    obtain ⟨k, hk⟩ := List.getElem?_of_mem hc
    have := HR.out.I.C.len k c hk; omega
  have hne1 : 0 < d1.cls.length := by rw [HX.out.1]; exact hne
  have CL := Lib.hid (learned_any HS2.out hls HR.out.I.hb hne1)
  clear HS HT f20 f21 zp hls hne1
  go_wp2_with fail
  (with_reducible refine CL.out.mono ?_)
  rintro e w3 ⟨b3, A, c, ys, rfl, hp, hs, hnew, hc1, hc2⟩
  have HLEN := Lib.hid (show ys.length ≤ d1.cls.length by rw [hp.length_eq]; exact lrn_len _ _)
  obtain ⟨k, hk⟩ : ∃ k, ys.length / 2 = k := ⟨_, rfl⟩
  have HK := Lib.hid hk
  have hkl : k ≤ ys.length := by omega
  have hbb := HR.out.I.hb
  have hyb : ys.length < 2147483648 := by have := HLEN.out; omega
  have edv : ((ys.length : Int)).tdiv 2 = (k : Int) := by rw [Int.tdiv_eq_ediv_of_nonneg (by omega)]; omega
  obtain ⟨τ3, hτ3⟩ : ∃ τ3 : Nat → Nat, τ3 = fun q => if q < w2.heap.size then τ1 q else 0 := ⟨_, rfl⟩
  have hfr := HS2.out.fresh b3
  rw [← hτ3] at hfr
  have HT3 := Lib.hid (HT2.out.trans hfr.2)
  have hdl : (ys.drop k).length = ys.length - k := by rw [List.length_drop]
  have CF := Lib.hid (show ∀ (A' : Option Addr) (c' : Nat), (∀ (i : Nat) z, (ys.drop k)[i]? = some z → ∃ a, A' = some a ∧ w3.cell? (a.add i) = some (.int .i32 z) ∧ τ3 a.block = 0) → Calls Tryz.prog 132 #[ptr p, .slice A' (ys.length - k) c'] w3 (FrgPost B τ3 w3 p n d1 (ys.length - k)) from fun A' c' hA => by
    have := forget_any (c := c') hfr.1 HR.out.I.L.nb HR.out.I.W HR.out.I.C HR.out.gq (by rw [HX.out.1]; exact hne) HR.out.I.hb hA (fun z hz => lrn_get hp z (List.mem_of_mem_drop hz)) (by rw [hdl]; omega)
    rwa [hdl] at this)
  have zp3 := hfr.1.plt
  have wmo : IntKind.i64.wrap (d.mo + 500) = d.mo + 500 := by rw [IntKind.wrap_i64]; omega
  rcases hnew with ⟨rfl, rfl⟩ | ⟨g, rfl, hg⟩
  · have hy0 : ys.length = 0 := by omega
    have CF1 : Hid (Calls Tryz.prog 132 #[ptr p, .slice none 0 0] w3 (FrgPost B τ3 w3 p n d1 0)) := by
      have := CF.out none 0 (fun i z hz => by have := (List.getElem?_eq_some_iff.1 hz).1; rw [hdl] at this; omega)
      rw [show ys.length - k = 0 by omega] at this
      exact Lib.hid this
    clear hfr hs hp hτ3 hdl CL HT2 HS2 b3 hk
    go_wp2_with fail
    (with_reducible refine CF1.out.mono ?_)
    rintro e w4 ⟨rfl, τ4, cls', F', gk, gu, s4, t4, W4, c3, c4, c5, c6⟩
    have f21 : w4.cell? ⟨p, 21, none⟩ = some (.int .i64 d.mo) := by
      have := s4.get_mo
      exact this.trans (by show some (Value.int .i64 d1.mo) = _; rw [HX.out.2.2.2.2.2])
    have f20 : w4.cell? ⟨p, 20, none⟩ = some (.int .i64 d.le) := by
      have := s4.get_le
      exact this.trans (by show some (Value.int .i64 d1.le) = _; rw [HX.out.2.2.2.2.1])
    have ff : ∀ i, w4.frozen? ⟨p, i, none⟩ = false := s4.pfree
    have zp := s4.plt
    have s5 := s4.set_le 0
    have s6 := s5.1.set_mo (d.mo + 500)
    have HE := Lib.hid (show StPost B τ w p n K0 Mo d (.returned (.tuple #[])) ((w4.setCell ⟨p, 20, none⟩ (.int .i64 0)).setCell ⟨p, 21, none⟩ (.int .i64 (d.mo + 500))) from by
      have hS := s6.1
      have hT := HT3.out.trans (t4.trans (s5.2.trans s6.2))
      have hk := HK.out
      exact st_of (q := ys.length - ys.length / 2) hT HR.out HM.out HX.out rfl HLEN.out W4 c3 c4 (by omega) c6 hS (by show (0 : Int) = _; omega))
    clear s4 t4 W4 c3 c4 c5 c6 s5 s6 CF CF1
    go_wp2_with fail
    go_end0
    exact HE.out
  · by_cases hck : c = k
    · have hy0 : ys.length = 0 := by omega
      have CF2 := Lib.hid (show ∀ A' c', Calls Tryz.prog 132 #[ptr p, .slice A' 0 c'] w3 (FrgPost B τ3 w3 p n d1 0) from fun A' c' => by
        have := CF.out A' c' (fun i z hz => by have := (List.getElem?_eq_some_iff.1 hz).1; rw [hdl] at this; omega)
        rw [show ys.length - k = 0 by omega] at this
        exact this)
      have hc0 : c = 0 := by omega
      clear hfr hs hp hτ3 hdl CL HT2 HS2 b3 hk hck
      go_wp2_with fail
      (with_reducible refine (CF2.out _ _).mono ?_)
      rintro e w4 ⟨rfl, τ4, cls', F', gk, gu, s4, t4, W4, c3, c4, c5, c6⟩
      have f21 : w4.cell? ⟨p, 21, none⟩ = some (.int .i64 d.mo) := by
        have := s4.get_mo
        exact this.trans (by show some (Value.int .i64 d1.mo) = _; rw [HX.out.2.2.2.2.2])
      have f20 : w4.cell? ⟨p, 20, none⟩ = some (.int .i64 d.le) := by
        have := s4.get_le
        exact this.trans (by show some (Value.int .i64 d1.le) = _; rw [HX.out.2.2.2.2.1])
      have ff : ∀ i, w4.frozen? ⟨p, i, none⟩ = false := s4.pfree
      have zp := s4.plt
      have s5 := s4.set_le 0
      have s6 := s5.1.set_mo (d.mo + 500)
      have HE := Lib.hid (show StPost B τ w p n K0 Mo d (.returned (.tuple #[])) ((w4.setCell ⟨p, 20, none⟩ (.int .i64 0)).setCell ⟨p, 21, none⟩ (.int .i64 (d.mo + 500))) from by
        have hS := s6.1
        have hT := HT3.out.trans (t4.trans (s5.2.trans s6.2))
        have hk := HK.out
        exact st_of (q := ys.length - ys.length / 2) hT HR.out HM.out HX.out rfl HLEN.out W4 c3 c4 (by omega) c6 hS (by show (0 : Int) = _; omega))
      clear s4 t4 W4 c3 c4 c5 c6 s5 s6 CF CF2
      go_wp2_with fail
      go_end0
      exact HE.out
    · have CF3 := Lib.hid (CF.out (some ⟨g, k, none⟩) (c - k) (fun i z hz => by
        refine ⟨_, rfl, ?_, by rw [hτ3]; exact if_neg (by show ¬ g < _; omega)⟩
        rw [List.getElem?_drop] at hz
        obtain ⟨a, ha, hc⟩ := hs.get (k + i) z hz
        injection ha with ha; subst ha
        rw [Addr.add_lit] at hc ⊢
        rw [Nat.zero_add] at hc; exact hc))
      clear hfr hs hp hτ3 hdl CL HT2 HS2 b3 hk
      go_wp2_with fail
      (with_reducible refine CF3.out.mono ?_)
      rintro e w4 ⟨rfl, τ4, cls', F', gk, gu, s4, t4, W4, c3, c4, c5, c6⟩
      have f21 : w4.cell? ⟨p, 21, none⟩ = some (.int .i64 d.mo) := by
        have := s4.get_mo
        exact this.trans (by show some (Value.int .i64 d1.mo) = _; rw [HX.out.2.2.2.2.2])
      have f20 : w4.cell? ⟨p, 20, none⟩ = some (.int .i64 d.le) := by
        have := s4.get_le
        exact this.trans (by show some (Value.int .i64 d1.le) = _; rw [HX.out.2.2.2.2.1])
      have ff : ∀ i, w4.frozen? ⟨p, i, none⟩ = false := s4.pfree
      have zp := s4.plt
      have s5 := s4.set_le (k : Int)
      have s6 := s5.1.set_mo (d.mo + 500)
      have HE := Lib.hid (show StPost B τ w p n K0 Mo d (.returned (.tuple #[])) ((w4.setCell ⟨p, 20, none⟩ (.int .i64 (k : Int))).setCell ⟨p, 21, none⟩ (.int .i64 (d.mo + 500))) from by
        have hS := s6.1
        have hT := HT3.out.trans (t4.trans (s5.2.trans s6.2))
        have hk := HK.out
        exact st_of (q := ys.length - ys.length / 2) hT HR.out HM.out HX.out rfl HLEN.out W4 c3 c4 (by omega) c6 hS (by show (k : Int) = _; omega))
      clear s4 t4 W4 c3 c4 c5 c6 s5 s6 CF CF3
      go_wp2_with fail
      go_end0
      exact HE.out
end
/-- What startOver is asked, for up to 20 numbers. -/
theorem start_ok_any {n f0 : Nat} (hn : n ≤ 20) (hf : f0 ≤ 100000) : StartOk n f0 := fun B τ8 W p K0 Mo d8 d ct l htr s r h0 h1 h2 h3 h4 => by
  have ht := (l.top hn htr).1
  have hm := l.mo
  exact start_any s r h0 (by rw [h2]; omega) (by rw [h2]; omega) h4
theorem solve_full {A : Option Addr} {f : List (List Int)} {fcap n : Nat} {w : World} (hf : FormAt w A f) (hm : mayM (n : Int) f = true) (hn : n ≤ 20) (hfl : f.length ≤ 100000) (hcl : ∀ c ∈ f, c.length ≤ 100000) :
    Calls Tryz.prog 10 #[.int .i64 (n : Int), .slice A f.length fcap, .int .i64 1099511627776] w (SfPost n f w) :=
  (solve_any (f0 := 100000) 1099511627776 hf hm hn hfl (by omega) hcl (by decide) (by decide) (start_ok_any hn (by omega))).mono fun e w' k => k.full (grant_max (by
    have h1 : (min (n : Int) 40).toNat = n := by omega
    rw [h1]
    have h2 : (2 : Int) ^ n ≤ 1048576 := by
      have := Nat.pow_le_pow_right (n := 2) (by decide) hn
      have e : ((2 ^ n : Nat) : Int) = (2 : Int) ^ n := Int.natCast_pow 2 n
      rw [← e]; have : 2 ^ n ≤ 1048576 := this; omega
    have h3 : (0 : Int) < 2 ^ n := Int.pow_pos (by decide)
    have h4 : (1 : Int) ≤ 1099511627776 / 2 ^ n := (Int.le_ediv_iff_mul_le h3).2 (by omega)
    omega))
end Go.Proofs.YtpmdnbdmocdngaaGreat
