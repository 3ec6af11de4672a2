/-
  Parts of the proof, joined: DpllO2, DpllLe, DpllLf.
-/
import Derived.Test.YtcebpbjpbnfacaaGreatMg17
import Derived.Test.YtcebpbjpbnfacaaGreatMg27
import Derived.Test.YtcebpbjpbnfacaaGreatMg25

/-
  gather of package dpll.
-/
namespace Go.Proofs.YtcebpbjpbnfacaaGreat
open Go.ChangeShapes Go.WideShapes Go.ChangeAt Go.RowKit
set_option linter.unusedVariables false
set_option linter.unusedSimpArgs false

section
variable {B : Nat} {τ : Nat → Nat} {w : World} {p n : Nat} {d : Sd}
theorem Gat.pos {i : Nat} {s r : Nt} (G : Gat d n i s r) : ∃ i', i = i' + 1 := by cases G <;> exact ⟨_, rfl⟩
set_option maxHeartbeats 1600000 in
theorem gather_any (h : Sr B τ w p n d) (L : Len n d) {k : Nat} {c : Cl} (hk : d.cls[k]? = some c) (hkb : k < 2147483648) (hc : CGood n c) (htr : ∀ q ∈ d.tr, q < 2 * n) (hdp : ∀ v ∈ d.dp, v ≤ n) (hB : B ≤ w.heap.size) {r : Nt} (G : Gat d n d.tr.length (Nt.all d.dp d.ma.length ⟨d.se, d.nu, [0], 0⟩ c.ls) r) :
    Calls Tryz.prog 132 #[ptr p, .int .i32 (k : Int)] w (GaPost B τ w p n d r) := by
  have hmk : ∀ w, (Instr.makeSlice 127 (.int .i64 1) (.int .i64 1)).run Tryz.prog w = .ok (.slice (some ⟨w.heap.size, 0, none⟩) 1 1) (w.alloc (.cells (madeCells #[.int .i32 0] 1) 142)) := fun w => run_make_row' (P := Tryz.prog) 127 142 (.int .i32 0) 4 Tryz.underlying127 infoLit rfl .i64 .i64 1 (by omega) (by omega) w
  have hcells : madeCells #[Value.int .i32 0] 1 = #[Value.int .i32 0] := by apply Array.ext'; rw [toList_madeCells_one]; rfl
  have hn := L.nb
  have HL := Lib.hid L
  have HTR := Lib.hid htr
  have HDP := Lib.hid hdp
  have HG := Lib.hid G
  -- the world behind both allocations
  have b1 : Below w.heap.size w ((w.alloc (.cells (madeCells #[.int .i32 0] 1) 142)).alloc (.cells #[.slice (some ⟨w.heap.size, 0, none⟩) 1 1] 127)) := ((Below.refl _ _).alloc (Nat.le_refl _) _).alloc (by simp) _
  obtain ⟨τ0, hτ0⟩ : ∃ τ0 : Nat → Nat, τ0 = fun b => if w.heap.size ≤ b then 0 else τ b := ⟨_, rfl⟩
  have k1 : Step (fun _ => False) τ τ0 w ((w.alloc (.cells (madeCells #[.int .i32 0] 1) 142)).alloc (.cells #[.slice (some ⟨w.heap.size, 0, none⟩) 1 1] 127)) := ⟨(Step.of_below (fun _ => False) τ b1).kept, fun b hb => by rw [hτ0]; exact if_neg (by omega)⟩
  have r0 : ∀ b, w.heap.size ≤ b → τ0 b = 0 := fun b hb => by rw [hτ0]; exact if_pos hb
  have R1 := Lib.hid (show Sr B τ0 ((w.alloc (.cells (madeCells #[.int .i32 0] 1) 142)).alloc (.cells #[.slice (some ⟨w.heap.size, 0, none⟩) 1 1] 127)) p n d by
    obtain ⟨pcs, h⟩ := h; exact ⟨pcs, h.step k1 (fun _ _ h => h)⟩)
  have T1 := Lib.hid (Stp.of_step k1 (fun h => h))
  have hA : ((w.alloc (.cells (madeCells #[.int .i32 0] 1) 142)).alloc (.cells #[.slice (some ⟨w.heap.size, 0, none⟩) 1 1] 127)).heap[w.heap.size]? = some (.cells (madeCells #[.int .i32 0] 1) 142) := (alloc_other (by simp)).trans (new_heap w _)
  have hB1 : ((w.alloc (.cells (madeCells #[.int .i32 0] 1) 142)).alloc (.cells #[.slice (some ⟨w.heap.size, 0, none⟩) 1 1] 127)).heap[w.heap.size + 1]? = some (.cells #[.slice (some ⟨w.heap.size, 0, none⟩) 1 1] 127) := by
    have := new_heap (w.alloc (.cells (madeCells #[.int .i32 0] 1) 142)) (.cells #[.slice (some ⟨w.heap.size, 0, none⟩) 1 1] 127)
    simpa using this
  have X1 := Lib.hid (show Bx w.heap.size τ0 ((w.alloc (.cells (madeCells #[.int .i32 0] 1) 142)).alloc (.cells #[.slice (some ⟨w.heap.size, 0, none⟩) 1 1] 127)) (w.heap.size + 1) (some ⟨w.heap.size, 0, none⟩) 1 [0] from
    ⟨r0 _ (by omega), by omega, by unfold World.cell?; rw [hB1]; rfl, by unfold World.frozen?; rw [hB1]; simp, ⟨⟨rfl, .inr ⟨w.heap.size, 1, _, rfl, Nat.zero_le _, hA, Nat.le_refl _, by unfold maxLen; omega, by rw [hcells]; rfl, by rw [hcells]; rfl⟩⟩, fun g hg => by
      have : w.heap.size = g := by simpa [Value.ownBlock] using hg
      subst this; exact r0 _ (Nat.le_refl _)⟩, fun g hg => by
      have : w.heap.size = g := by simpa [Value.ownBlock] using hg
      subst this; exact ⟨Nat.le_refl _, by omega⟩⟩)
  have hsz : w.heap.size ≤ ((w.alloc (.cells (madeCells #[.int .i32 0] 1) 142)).alloc (.cells #[.slice (some ⟨w.heap.size, 0, none⟩) 1 1] 127)).heap.size := b1.size
  have NO := Lib.hid (note_any R1.out HL.out hB hsz X1.out hk hkb hc.1 hc.2.1 hc.2.2 (by have := HL.out.nu; omega) (by simp) hdp)
  have HS := Lib.hid (fun (M : Nat) => (Nt.all_len d.dp M c.ls ⟨d.se, d.nu, [0], 0⟩).1.trans L.se)
  clear h L htr hdp G b1 k1 r0 hτ0 hA hB1 hsz R1 X1 hk hc hcells
  go_enter Tryz.func132, Tryz.ntmps132
  go_wp2_with fail
  generalize ((w.alloc (.cells (madeCells #[.int .i32 0] 1) 142)).alloc (.cells #[.slice (some ⟨w.heap.size, 0, none⟩) 1 1] 127)) = W1 at *
  generalize hb : w.heap.size + 1 = b at *
  refine NO.out.mono ?_
  rintro e W2 ⟨rfl, τ2, A2, cap2, r2, x2, t2, hd2⟩
  have H2 := Lib.hid (show GaRel B τ w p n d b (Nt.all d.dp d.ma.length ⟨d.se, d.nu, [0], 0⟩ c.ls) W2 from ⟨⟨τ2, A2, cap2, r2, x2, Stq.stp T1.out t2⟩, HS.out _⟩)
  clear r2 x2 t2 hd2 NO T1 HS
  generalize Nt.all d.dp d.ma.length ⟨d.se, d.nu, [0], 0⟩ c.ls = s0 at *
  obtain ⟨AT, ct, f3, _⟩ : ∃ A cap, W2.cell? ⟨p, 3, none⟩ = some (.slice A d.tr.length cap) ∧ (A = none → d.tr.length = 0) := by
    obtain ⟨τ', A, cap, r, _, _⟩ := H2.out.ex
    exact r.head_tr
  have zp : p < W2.heap.size := lt_of_cell f3
  clear hmk
  have htl : d.tr.length ≤ 65536 := by have := HL.out.tr; omega
  go_wp2_with fail
  have HI : Hid (∃ (i : Nat) (s : Nt), i ≤ d.tr.length ∧ Gat d n i s r ∧ (i : Int) - 1 = (d.tr.length : Int) - 1 ∧ s = s0) := ⟨d.tr.length, s0, Nat.le_refl _, HG.out, rfl, rfl⟩
  go_loopw [6, 7] (fun lv iv wr => ∃ (i : Nat) (s : Nt), i ≤ d.tr.length ∧ iv = .int .i64 ((i : Int) - 1) ∧ lv = .int .i64 (s.last : Int) ∧ Hid (Gat d n i s r) ∧ Hid (GaRel B τ w p n d b s wr)) (fun _ iv _ => (intOf iv + 1).toNat)
  case atStart => exact ⟨d.tr.length, s0, Nat.le_refl _, by go_num, rfl, HG.out, H2.out⟩
  case round =>
    obtain ⟨i1, s, hi, rfl, rfl, G, H⟩ := hrel
    clear HG H2 f3 zp HI
    obtain ⟨i, rfl⟩ := G.out.pos
    have hi2 : i + 1 ≤ d.tr.length := hi
    obtain ⟨x, hx⟩ : ∃ x, d.tr[i]? = some x := ⟨_, List.getElem?_eq_getElem (Nat.lt_of_succ_le hi2)⟩
    have hx2 := HTR.out x (List.mem_of_getElem? hx)
    obtain ⟨τ1, A1, cap1, r1, bx1, t1⟩ := H.out.ex
    have R := Lib.hid r1
    have BX := Lib.hid bx1
    have T := Lib.hid t1
    have HSE := Lib.hid H.out.se
    obtain ⟨g3, c3, a3⟩ := R.out.at_tr (by show 0 < d.tr.length; omega)
    have f3 : wr.cell? ⟨p, 3, none⟩ = some (.slice (some ⟨g3, 0, none⟩) d.tr.length c3) := a3.len_tr.1
    have l3 : d.tr.length ≤ c3 := a3.len_tr.2
    have k3 := a3.cap
    have x3 : wr.cell? ⟨g3, i, none⟩ = some (.int .i32 (x : Int)) := a3.tr hx
    have z3 := a3.lt
    have zp := R.out.plt
    have CN := Lib.hid (fun W => lnum_any x W (by omega))
    have CO := Lib.hid (fun W => loth_any x W (by omega))
    obtain ⟨v, hv⟩ : ∃ v, x / 2 = v := ⟨_, rfl⟩
    have hvn : v < n := by omega
    obtain ⟨g13, c13, a13⟩ := R.out.at_se (by show 0 < s.se.length; rw [HSE.out]; omega)
    obtain ⟨sv, hsv⟩ : ∃ sv, s.se[v]? = some sv := ⟨_, List.getElem?_eq_getElem (by rw [HSE.out]; omega)⟩
    have hsd : s.se.getD (x / 2) false = sv := by rw [hv, List.getD_eq_getElem?_getD, hsv]; rfl
    have f13 : wr.cell? ⟨p, 13, none⟩ = some (.slice (some ⟨g13, 0, none⟩) s.se.length c13) := a13.len_se.1
    have l13 : s.se.length ≤ c13 := a13.len_se.2
    have k13 := a13.cap
    have x13 : wr.cell? ⟨g13, v, none⟩ = some (.bool sv) := a13.se hsv
    have z13 := a13.lt
    have e13 : v < s.se.length := by rw [HSE.out]; omega
    have v0 : (0 : Int) ≤ (v : Int) := by omega
    have v13 : (v : Int) < (s.se.length : Int) := by omega
    have hib : ((i + 1 : Nat) : Int) - 1 = (i : Int) := by omega
    have i0 : (0 : Int) ≤ (i : Int) := by omega
    have i3 : (i : Int) < (d.tr.length : Int) := by omega
    have hil : i < d.tr.length := by omega
    rw [hv] at CN
    have HX := Lib.hid hx
    have HV := Lib.hid hv
    have HSD := Lib.hid hsd
    clear r1 bx1 t1 hx a3 a13 hsv hv hsd
    rw [hib]
    cases sv with
    | false =>
      have HG2 : Hid (Gat d n i s r) := by
        have := G.out
        cases this with
        | skip a b g => exact g
        | done a b _ _ => rw [HX.out] at a; injection a with a; subst a; rw [HSD.out] at b; cases b
        | note a b _ _ _ _ _ _ _ _ _ => rw [HX.out] at a; injection a with a; subst a; rw [HSD.out] at b; cases b
      go_wp2_with fail
      go_quiet ((go_at_call 93; with_reducible exact calm_one CN.out))
      have B1 : Hid (Below wr.heap.size wr (wr.drewN nq)) := Below.draws (Below.refl _ _) nq
      have HE : Hid (GaRel B τ w p n d b s (wr.drewN nq)) := ⟨⟨τ1, A1, cap1, R.out.below B1.out, BX.out.below B1.out, T.out.trans (Stp.of_below τ1 B1.out)⟩, HSE.out⟩
      go_wp2_with fail
      go_roundw
      case rel => exact ⟨i, s, by omega, by go_num, rfl, HG2.out, HE.out⟩
      case measure => first | (simp [intOf]; done) | (simp [intOf]; omega)
    | true =>
      have HC : (s.last = 1 ∧ 0 < s.ls.length ∧ r = { s with ls := s.ls.set 0 (oth x) }) ∨ ∃ (k : Nat) (c : Cl), 2 ≤ s.last ∧ s.last ≤ 2000000 ∧ d.wy[v]? = some (k : Int) ∧ k < 2147483648 ∧ d.cls[k]? = some c ∧ CGood n c ∧ s.nu.length ≤ n ∧ s.ls.length ≤ 2000000 ∧ Gat d n i (s.more d c) r := by
        have := G.out
        rw [← HV.out]
        cases this with
        | skip a b g => rw [HX.out] at a; injection a with a; subst a; rw [HSD.out] at b; cases b
        | done a b e f => rw [HX.out] at a; injection a with a; subst a; exact .inl ⟨e, f, rfl⟩
        | note a b e f g h1 h2 h3 h4 h5 h6 => rw [HX.out] at a; injection a with a; subst a; exact .inr ⟨_, _, e, f, g, h1, h2, h3, h4, h5, h6⟩
      rcases HC with ⟨hl1, hlp, hr⟩ | ⟨k9, c9, hl2, hl3, hy, hk9, hkc, hcg, hnu, hls, hg⟩
      · have e1 : ((s.last : Int) == 1) = true := by rw [beq_iff_eq]; omega
        have HR := Lib.hid hr
        clear hr
        go_wp2_with fail
        go_quiet ((go_at_call 93; with_reducible exact calm_one CN.out))
        have B1 : Hid (Below wr.heap.size wr (wr.drewN nq)) := Below.draws (Below.refl _ _) nq
        have R3 := Lib.hid (R.out.below B1.out)
        have BX3 := Lib.hid (BX.out.below B1.out)
        have T3 := Lib.hid (T.out.trans (Stp.of_below τ1 B1.out))
        clear R BX T f3 x3 z3 zp f13 x13 z13 B1
        generalize wr.drewN nq = W3 at *
        obtain ⟨g, rfl, rg, gg, gb, gl, gc, gm, gf, gcell⟩ := BX3.out.head hlp
        obtain ⟨q0, hq0⟩ : ∃ q0, s.ls[0]? = some q0 := ⟨_, List.getElem?_eq_getElem hlp⟩
        have x0 : W3.cell? ⟨g, 0, none⟩ = some (.int .i32 (q0 : Int)) := gcell 0 q0 hq0
        have fb := BX3.out.at_
        have zb := BX3.out.lt
        have hne0 : ¬ s.ls = [] := fun e => by rw [e] at hlp; exact Nat.lt_irrefl _ hlp
        obtain ⟨u1, u2, u3⟩ := BX3.out.store R3.out hlp (oth x)
        have KB : ∀ (W : World) (o : Nat) (u : Value), W.cell? ⟨b, 0, none⟩ = some (.slice (some ⟨g, 0, none⟩) s.ls.length cap1) → (W.setCell ⟨g, o, none⟩ u).cell? ⟨b, 0, none⟩ = some (.slice (some ⟨g, 0, none⟩) s.ls.length cap1) := fun W o u h => (World.cell?_of_block (set_other (p := ⟨g, o, none⟩) gb.symm)).trans h
        have HE : Hid (∀ W : World, W.heap = (W3.setCell ⟨g, 0, none⟩ (.int .i32 (oth x : Int))).heap → W.os = W3.os → W.tape = W3.tape → W.output = W3.output → GaPost B τ w p n d r (.returned (.slice (some ⟨g, 0, none⟩) s.ls.length cap1)) W) := fun W h0 h1 h2 h3 => by
          have ht := Stq.stp T3.out u3
          rw [HR.out]
          refine ⟨τ1, some ⟨g, 0, none⟩, cap1, by show _ = Ending.returned (.slice (some ⟨g, 0, none⟩) (s.ls.set 0 (oth x)).length cap1); rw [List.length_set], u1.alike h0 h1 h2 h3, ?_, fun g2 hg2 => (u2.rowge g2 hg2).1, ht.alike h0 h1 h2 h3⟩
          exact u2.row.stp ((Stp.refl τ1 _).alike h0 h1 h2 h3)
        have ho : oth x < 2 * n := oth_lt hx2
        clear u1 u2 u3 gcell hq0 G H
        go_wp2_with fail
        go_region_held3 (fun w' => w'.cell? ⟨b, 0, none⟩ = some (.slice (some ⟨g, 0, none⟩) s.ls.length cap1)) (first | go_keep | (exact KB _ _ _ (by assumption))) ((go_at_call 94; (with_reducible refine (CO.out _).mono ?_); rintro e we ⟨rfl, rfl⟩))
        go_wp2_with fail
        go_ret
        exact HE.out _ rfl rfl rfl rfl
      · have e1 : ((s.last : Int) == 1) = false := beq_eq_false_iff_ne.2 (by omega)
        have hne1 : ¬ (s.last : Int) = 1 := by omega
        obtain ⟨t, ht⟩ : ∃ t, t = Nt.all d.dp d.ma.length ⟨s.se, s.nu, s.ls, 0⟩ c9.ls := ⟨_, rfl⟩
        have HM := Lib.hid (show s.more d c9 = { t with last := s.last + t.last - 1 } by rw [ht]; rfl)
        have htb : t.last ≤ 131072 := by
          have h1 : t.last ≤ 0 + c9.ls.length := by rw [ht]; exact (Nt.all_len d.dp d.ma.length c9.ls ⟨s.se, s.nu, s.ls, 0⟩).2.2.2
          have := hcg.2.1; omega
        have HG2 := Lib.hid hg
        have HLS2 := Lib.hid hls
        have HK := Lib.hid (show (d.noted s).cls[k9]? = some c9 from hkc)
        have HCG := Lib.hid hcg
        have HY := Lib.hid hy
        have LN := Lib.hid (HL.out.noted HSE.out hnu)
        go_wp2_with fail
        go_quiet ((go_at_call 93; with_reducible exact calm_one CN.out))
        have B1 : Hid (Below wr.heap.size wr (wr.drewN nq)) := Below.draws (Below.refl _ _) nq
        have R3 := Lib.hid (R.out.below B1.out)
        have BX3 := Lib.hid (BX.out.below B1.out)
        have T3 := Lib.hid (T.out.trans (Stp.of_below τ1 B1.out))
        clear R BX T f3 x3 z3 zp f13 x13 z13 B1 hkc hcg hg hls G H
        generalize wr.drewN nq = W3 at *
        have B2 : Hid (Below W3.heap.size W3 W3.drew) := Below.draws (Below.refl _ _) 1
        have T4 := Lib.hid (T3.out.trans (Stp.of_below τ1 B2.out))
        obtain ⟨g7, c7, a7⟩ := R3.out.at_wy (by show 0 < d.wy.length; rw [HL.out.wy]; omega)
        have f7 : W3.cell? ⟨p, 7, none⟩ = some (.slice (some ⟨g7, 0, none⟩) d.wy.length c7) := a7.len_wy.1
        have l7 : d.wy.length ≤ c7 := a7.len_wy.2
        have k7 := a7.cap
        have x7 : W3.cell? ⟨g7, v, none⟩ = some (.int .i32 (k9 : Int)) := a7.wy HY.out
        have z7 := a7.lt
        have zp := R3.out.plt
        have v7 : (v : Int) < (d.wy.length : Int) := by rw [HL.out.wy]; omega
        have e7 : v < d.wy.length := by rw [HL.out.wy]; omega
        have NO4 := Lib.hid (note_any (R3.out.below B2.out) LN.out hB T4.out.kept.size (BX3.out.below B2.out) HK.out hk9 HCG.out.1 HCG.out.2.1 HCG.out.2.2 (by show s.nu.length ≤ 2000000; omega) HLS2.out HDP.out)
        have ht2 : Nt.all (d.noted s).dp (d.noted s).ma.length ⟨(d.noted s).se, (d.noted s).nu, s.ls, 0⟩ c9.ls = t := ht.symm
        rw [ht2] at NO4
        have f7d : W3.drew.cell? ⟨p, 7, none⟩ = some (.slice (some ⟨g7, 0, none⟩) d.wy.length c7) := f7
        have F7 := Lib.hid f7d
        have HSE2 := Lib.hid (show (s.more d c9).se.length = n from (Nt.more_len d s c9).trans HSE.out)
        clear a7 hy ht ht2 f7d
        go_wp2_with fail
        go_region_held3 (fun w' => w'.cell? ⟨p, 7, none⟩ = some (.slice (some ⟨g7, 0, none⟩) d.wy.length c7) ∧ w'.cell? ⟨g7, v, none⟩ = some (.int .i32 (k9 : Int))) (first | go_keep | (exact ⟨by assumption, by assumption⟩)) ((first | (go_at_call 93; (with_reducible refine (CN.out _).mono ?_); rintro e we ⟨rfl, rfl⟩) | (go_at_call 176; refine NO4.out.mono ?_; rintro e W5 ⟨rfl, τ5, A5, cap5, r5, x5, t5, d5⟩; have y7 : W5.cell? ⟨p, 7, none⟩ = some (.slice (some ⟨g7, 0, none⟩) d.wy.length c7) := (d5 7 (by decide)).trans F7.out; have y8 : W5.cell? ⟨g7, v, none⟩ = some (.int .i32 (k9 : Int)) := r5.why_again HY.out y7; have HE := Lib.hid (show GaRel B τ w p n d b (s.more d c9) W5 from ⟨by rw [HM.out]; exact ⟨τ5, A5, cap5, r5, x5, Stq.stp T4.out t5⟩, HSE2.out⟩); clear r5 x5 t5 d5)))
        go_wp2_with fail
        go_roundw
        case rel => exact ⟨i, s.more d c9, by omega, by go_num, by rw [HM.out]; show Value.int .i64 _ = Value.int .i64 ((s.last + t.last - 1 : Nat) : Int); congr 1; rw [IntKind.wrap_i64, IntKind.wrap_i64]; omega, HG2.out, HE.out⟩
        case measure => first | (simp [intOf]; done) | (simp [intOf]; omega)
end
end Go.Proofs.YtcebpbjpbnfacaaGreat

/-
  lesson of package dpll.
-/
namespace Go.Proofs.YtcebpbjpbnfacaaGreat
open Go.ChangeShapes Go.WideShapes Go.ChangeAt Go.RowKit
set_option linter.unusedVariables false
set_option linter.unusedSimpArgs false

/-- What a lesson is: a list of its own, its first literal, the others, the one ahead that hangs on the latest decision. -/
def LsPost (B : Nat) (τ : Nat → Nat) (w : World) (p n : Nat) (d : Sd) (z : Nat) (tl : List Nat) (e : Ending) (w' : World) : Prop :=
  ∃ τ' g cap M, e = .returned (.slice (some ⟨g, 0, none⟩) (M.length + 1) cap) ∧ Sr B τ' w' p n d ∧ RowN τ' 0 w' 142 1 (.slice (some ⟨g, 0, none⟩) (M.length + 1) cap) (M.length + 1) (n32 (z :: M)) ∧ w.heap.size ≤ g ∧ Stp τ τ' w w' ∧ M.Perm (kp d tl) ∧ ∀ q1, M[0]? = some q1 → ∀ q ∈ M, dpt d.dp q ≤ dpt d.dp q1
structure LsR (B : Nat) (τ : Nat → Nat) (w0 : World) (p n : Nat) (d : Sd) (z g cap L : Nat) (K M : List Nat) (i : Nat) (wr : World) : Prop where
  R : Sr B τ wr p n d
  row : RowN τ 0 wr 142 1 (.slice (some ⟨g, 0, none⟩) (L + 1) cap) (L + 1) (n32 (z :: M))
  S : Stk g w0 wr
  len : M.length = L
  pm : M.Perm K
  mx : ∀ q1, M[0]? = some q1 → ∀ j q, j + 1 < i → M[j]? = some q → dpt d.dp q ≤ dpt d.dp q1
section
variable {B : Nat} {τ : Nat → Nat} {w0 wr : World} {p n z g cap L i : Nat} {d : Sd} {K M : List Nat}
theorem LsR.swap (h : LsR B τ w0 p n d z g cap L K M i wr) {q1 q : Nat} (h1 : M[0]? = some q1) (hi : 2 ≤ i) (hq : M[i - 1]? = some q) (hlt : dpt d.dp q1 < dpt d.dp q) : LsR B τ w0 p n d z g cap L K ((M.set 0 q).set (i - 1) q1) (i + 1) ((wr.setCell ⟨g, 1, none⟩ (.int .i32 (q : Int))).setCell ⟨g, i, none⟩ (.int .i32 (q1 : Int))) := by
  have hg : τ g = 0 := h.row.2 g rfl
  have hil := (List.getElem?_eq_some_iff.1 hq).1
  have hl := h.len
  have k1 : Step (fun r => r = 0) τ τ wr (wr.setCell ⟨g, 1, none⟩ (.int .i32 (q : Int))) := Step.set _ _ hg
  have k2 : Step (fun r => r = 0) τ τ (wr.setCell ⟨g, 1, none⟩ (.int .i32 (q : Int))) ((wr.setCell ⟨g, 1, none⟩ (.int .i32 (q : Int))).setCell ⟨g, i, none⟩ (.int .i32 (q1 : Int))) := Step.set _ _ hg
  obtain ⟨t, ht⟩ : ∃ t, M = q1 :: t := by
    match M, h1 with
    | a :: t, h1 => exact ⟨t, by simp at h1; rw [h1]⟩
  obtain ⟨j, rfl⟩ : ∃ j, i = j + 2 := ⟨i - 2, by omega⟩
  have hqt : t[j]? = some q := by rw [ht] at hq; simpa using hq
  have e : (M.set 0 q).set (j + 2 - 1) q1 = q :: t.set j q1 := by rw [ht]; rfl
  refine ⟨?_, ?_, (h.S.trans Stk.set).trans Stk.set, by rw [List.length_set, List.length_set]; exact hl, ?_, fun qa ha jj qq hj hqq => ?_⟩
  · obtain ⟨pcs, s⟩ := h.R
    exact ⟨pcs, (s.step k1 (fun r hr e => by omega)).step k2 (fun r hr e => by omega)⟩
  · have := (h.row.store (i := 1) (by omega) (.int .i32 (q : Int))).store (i := j + 2) (by omega) (.int .i32 (q1 : Int))
    have e2 : ((n32 (z :: M)).set 1 (.int .i32 (q : Int))).set (j + 2) (.int .i32 (q1 : Int)) = n32 (z :: (M.set 0 q).set (j + 2 - 1) q1) := by
      rw [ht]
      simp [n32, List.map_set]
    rw [e2] at this
    exact this
  · rw [e]
    refine (perm_set t j hqt).trans ?_
    rw [← ht]; exact h.pm
  · rw [e] at ha hqq
    have ha : q = qa := by simpa using ha
    subst ha
    match jj, hj, hqq with
    | 0, _, hqq =>
      have : q = qq := by simpa using hqq
      rw [this]; exact Nat.le_refl _
    | k + 1, hj, hqq =>
      have hqq : (t.set j q1)[k]? = some qq := by simpa using hqq
      by_cases ek : j = k
      · subst ek
        rw [List.getElem?_set_self (List.getElem?_eq_some_iff.1 hqt).1] at hqq
        injection hqq with hqq
        rw [← hqq]; omega
      · rw [List.getElem?_set_ne ek] at hqq
        have := h.mx q1 h1 (k + 1) qq (by omega) (by rw [ht]; simpa using hqq)
        omega
theorem LsR.stay (h : LsR B τ w0 p n d z g cap L K M i wr) {q1 q : Nat} (h1 : M[0]? = some q1) (hi : 2 ≤ i) (hq : M[i - 1]? = some q) (hle : dpt d.dp q ≤ dpt d.dp q1) : LsR B τ w0 p n d z g cap L K M (i + 1) wr :=
  ⟨h.R, h.row, h.S, h.len, h.pm, fun qa ha j qq hj hqq => by
    rw [h1] at ha; injection ha with ha; subst ha
    by_cases e : j + 1 = i
    · have e2 : j = i - 1 := by omega
      subst e2
      rw [hq] at hqq; injection hqq with hqq; rw [← hqq]; exact hle
    · exact h.mx _ h1 j qq (by omega) hqq⟩
theorem LsR.below {W : World} (h : LsR B τ w0 p n d z g cap L K M i wr) (b : Below wr.heap.size wr W) : LsR B τ w0 p n d z g cap L K M i W :=
  ⟨h.R.below b, h.row.stp (Stp.of_below τ b), h.S.trans (Stk.of_below b), h.len, h.pm, h.mx⟩
end
end Go.Proofs.YtcebpbjpbnfacaaGreat

/-
  lesson of package dpll: the walk.
-/
namespace Go.Proofs.YtcebpbjpbnfacaaGreat
open Go.ChangeShapes Go.WideShapes Go.ChangeAt Go.RowKit
set_option linter.unusedVariables false
set_option linter.unusedSimpArgs false

section
variable {B : Nat} {τ : Nat → Nat} {w wr : World} {p n x i : Nat} {d : Sd} {tl : List Nat} {r : Nt}
set_option maxHeartbeats 6400000 in
set_option maxRecDepth 4000 in
theorem lesson_any (h : Sr B τ w p n d) (L : Len n d) {k : Nat} {c : Cl} (hk : d.cls[k]? = some c) (hkb : k < 2147483648) (hc : CGood n c) (htr : ∀ q ∈ d.tr, q < 2 * n) (hdp : ∀ v ∈ d.dp, v ≤ n) (G : Gat d n d.tr.length (Nt.all d.dp d.ma.length ⟨d.se, d.nu, [0], 0⟩ c.ls) r) (hls : r.ls = oth x :: tl) (hnd : ∀ q ∈ tl, NdOk n (d.noted r) q) (htl : tl.length ≤ 200000) (hse : r.se.length = n) (hnu : r.nu.length ≤ n) :
    Calls Tryz.prog 96 #[ptr p, .int .i32 (k : Int)] w (LsPost B τ w p n (d.noted r) (oth x) tl) := by
  have hB : B ≤ w.heap.size := by obtain ⟨pcs, s⟩ := h; exact s.base
  have hn := L.nb
  have CG := Lib.hid (gather_any h L hk hkb hc htr hdp hB G)
  have LN := Lib.hid (L.noted hse hnu)
  have HLS := Lib.hid hls
  have HND := Lib.hid hnd
  clear h L hk hc htr G hls hnd hse hnu
  go_enter Tryz.func96, Tryz.ntmps96
  go_wp2_with fail
  (with_reducible refine CG.out.mono ?_)
  rintro e w1 ⟨τ1, A1, cap, rfl, s1, r1, o1, t1⟩
  rw [HLS.out] at r1 o1 ⊢
  obtain ⟨g, rfl⟩ : ∃ g, A1 = some ⟨g, 0, none⟩ := by
    rcases r1.at with ⟨_, h⟩ | ⟨g, cap', cur, h0, _⟩
    · simp at h
    · injection h0 with h0 _ _; exact ⟨g, h0⟩
  have hgw := o1 g rfl
  have r1 : RowN τ1 0 w1 142 1 (.slice (some ⟨g, 0, none⟩) (tl.length + 1) cap) (tl.length + 1) (n32 (oth x :: tl)) := r1
  rw [List.length_cons]
  have CS := Lib.hid (shorter_any s1 LN.out r1 htl HND.out)
  have T1 := Lib.hid t1
  have hcap : cap ≤ 9223372036854775807 := by
    rcases r1.at with ⟨_, h⟩ | ⟨g', cap', cur, h0, hb, h1, h2, _⟩
    · omega
    · injection h0 with _ _ h5; subst h5; exact h2
  have hcap0 : tl.length + 1 ≤ cap := by
    rcases r1.at with ⟨_, h⟩ | ⟨g', cap', cur, h0, hb, h1, h2, _⟩
    · omega
    · injection h0 with _ _ h5; subst h5; exact h1
  clear s1 r1 o1 t1 CG
  go_wp2_with fail
  (with_reducible refine CS.out.mono ?_)
  rintro e w2 ⟨rfl, s2, r2, st2⟩
  obtain ⟨K, hK⟩ : ∃ K, kp (d.noted r) tl = K := ⟨_, rfl⟩
  have hKl : K.length ≤ tl.length := by rw [← hK]; exact kp_len _ _
  rw [hK] at r2 ⊢
  have HKE := Lib.hid hK
  have R0 : Hid (LsR B τ1 w1 p n (d.noted r) (oth x) g cap K.length K K 2 w2) := ⟨s2, r2, st2, rfl, List.Perm.refl _, fun q1 h1 j q hj hq => by
    obtain rfl : j = 0 := by omega
    rw [h1] at hq; injection hq with hq; rw [hq]; exact Nat.le_refl _⟩
  have HEND := Lib.hid (show ∀ (M : List Nat) (W : World), LsR B τ1 w1 p n (d.noted r) (oth x) g cap K.length K M (K.length + 1) W ∨ (K.length < 2 ∧ LsR B τ1 w1 p n (d.noted r) (oth x) g cap K.length K M 2 W) → LsPost B τ w p n (d.noted r) (oth x) tl (.returned (.slice (some ⟨g, 0, none⟩) (K.length + 1) cap)) W from fun M W hM => by
    have key : ∀ j, LsR B τ1 w1 p n (d.noted r) (oth x) g cap K.length K M j W → K.length + 1 ≤ j → LsPost B τ w p n (d.noted r) (oth x) tl (.returned (.slice (some ⟨g, 0, none⟩) (K.length + 1) cap)) W := fun j R hj => by
      have hg : τ1 g = 0 := R.row.2 g rfl
      refine ⟨τ1, g, cap, M, by rw [R.len], R.R, by rw [R.len]; exact R.row, hgw, ?_, by rw [HKE.out]; exact R.pm, fun q1 h1 q hq => ?_⟩
      · have st := R.S
        exact ⟨⟨st.os.trans T1.out.kept.os, st.tape.trans T1.out.kept.tape, st.output.trans T1.out.kept.output, Nat.le_trans T1.out.kept.size st.size, fun b hb hn => (st.block b (Nat.lt_of_lt_of_le hb T1.out.kept.size) (by omega)).trans (T1.out.kept.block b hb hn)⟩, T1.out.tag⟩
      · obtain ⟨jj, hjj⟩ := List.getElem?_of_mem hq
        have := (List.getElem?_eq_some_iff.1 hjj).1
        exact R.mx q1 h1 jj q (by have := R.len; omega) hjj
    rcases hM with h | ⟨h1, h⟩
    · exact key _ h (Nat.le_refl _)
    · by_cases e : K.length = 0
      · exact key _ h (by omega)
      · exact key _ h (by omega))
  clear s2 r2 st2 CS hK
  go_wp2_with fail
  go_loopw [6] (fun iv wr => ∃ (j : Nat) (M : List Nat), 2 ≤ j ∧ (j = 2 ∨ j ≤ K.length + 1) ∧ iv = .int .i64 j ∧ Hid (LsR B τ1 w1 p n (d.noted r) (oth x) g cap K.length K M j wr)) (fun iv _ => K.length + 1 - (intOf iv).toNat)
  case atStart => exact ⟨2, K, Nat.le_refl _, .inl rfl, rfl, R0⟩
  case round =>
    obtain ⟨j, M, hj2, hj3, rfl, R⟩ := hrel
    clear R0
    by_cases hlt : j < K.length + 1
    · have hml := R.out.len
      obtain ⟨q1, hq1⟩ : ∃ q, M[0]? = some q := ⟨_, List.getElem?_eq_getElem (by omega)⟩
      obtain ⟨q, hq⟩ : ∃ q, M[j - 1]? = some q := ⟨_, List.getElem?_eq_getElem (by omega)⟩
      have hin : ∀ q, q ∈ M → q < 2 * n := fun q hq => by
        have h1 := R.out.pm.mem_iff.1 hq
        rw [← HKE.out] at h1
        exact (HND.out q (List.mem_filter.1 h1).1).1
      have hq1n := hin q1 (List.mem_of_getElem? hq1)
      have hqn := hin q (List.mem_of_getElem? hq)
      have x1 : wr.cell? ⟨g, 1, none⟩ = some (.int .i32 (q1 : Int)) := R.out.row.cell (by show (n32 (oth x :: M))[1]? = _; simp [n32, hq1])
      have xj : wr.cell? ⟨g, j, none⟩ = some (.int .i32 (q : Int)) := R.out.row.cell (by
        obtain ⟨j', rfl⟩ : ∃ j', j = j' + 1 := ⟨j - 1, by omega⟩
        show (n32 (oth x :: M))[j' + 1]? = _
        have hq : M[j']? = some q := hq
        simp [n32, hq])
      have hfr : ∀ k, wr.frozen? ⟨g, k, none⟩ = false := by
        rcases R.out.row.at with ⟨_, h1⟩ | ⟨g', cap', cur, h0, hb, _⟩
        · omega
        · injection h0 with h0 _ _; injection h0 with h0; injection h0 with h0; subst h0; exact hb.free
      have zg := lt_of_cell x1
      have hdl : d.dp.length = n := LN.out.dp
      obtain ⟨g6, c6, a6⟩ := R.out.R.at_dp (by show 0 < d.dp.length; omega)
      obtain ⟨y1, hy1⟩ : ∃ y, d.dp[q1 / 2]? = some y := ⟨_, List.getElem?_eq_getElem (by omega)⟩
      obtain ⟨y, hy⟩ : ∃ y, d.dp[q / 2]? = some y := ⟨_, List.getElem?_eq_getElem (by omega)⟩
      have f6 : wr.cell? ⟨p, 6, none⟩ = some (.slice (some ⟨g6, 0, none⟩) d.dp.length c6) := a6.len_dp.1
      have l6 : d.dp.length ≤ c6 := a6.len_dp.2
      have k6 := a6.cap
      have z1 := a6.dp hy1
      have z2 := a6.dp hy
      have zp := R.out.R.plt
      have z6 := a6.lt
      have HD1 := Lib.hid (show dpt d.dp q1 = y1 from dpt_of hy1)
      have HD2 := Lib.hid (show dpt d.dp q = y from dpt_of hy)
      have CN1 := Lib.hid (fun W => lnum_any q1 W (by omega))
      have CN2 := Lib.hid (fun W => lnum_any q W (by omega))
      have e1 : q1 / 2 < d.dp.length := by omega
      have e2 : q / 2 < d.dp.length := by omega
      have HQ1 := Lib.hid hq1
      have HQ := Lib.hid hq
      obtain ⟨v1, hv1⟩ : ∃ v, q1 / 2 = v := ⟨_, rfl⟩
      obtain ⟨v, hv⟩ : ∃ v, q / 2 = v := ⟨_, rfl⟩
      rw [hv1] at CN1 z1 e1
      rw [hv] at CN2 z2 e2
      have b1 : (j : Int) < (K.length : Int) + 1 := by omega
      have b2 : (0 : Int) ≤ (j : Int) := by omega
      have b3 : (1 : Int) < (K.length : Int) + 1 := by omega
      have b4 : (v1 : Int) < (d.dp.length : Int) := by omega
      have b5 : (v : Int) < (d.dp.length : Int) := by omega
      have b6 : (0 : Int) ≤ (v1 : Int) := by omega
      have b7 : (0 : Int) ≤ (v : Int) := by omega
      have n0 : ¬ K = [] := fun e => by rw [e] at b3; simp at b3
      have hlj : (K.length + 1 : Nat) = K.length + 1 := rfl
      clear hq1 hq hin a6 hy1 hy hml hv1 hv HND HKE HEND
      by_cases hyy : y1 < y
      · have d1 : (y1 : Int) < (y : Int) := by omega
        have HN := Lib.hid (show ∀ W : World, Below wr.heap.size wr W → LsR B τ1 w1 p n (d.noted r) (oth x) g cap K.length K ((M.set 0 q).set (j - 1) q1) (j + 1) ((W.setCell ⟨g, 1, none⟩ (.int .i32 (q : Int))).setCell ⟨g, j, none⟩ (.int .i32 (q1 : Int))) from fun W b => (R.out.below b).swap HQ1.out hj2 HQ.out (by rw [show dpt (d.noted r).dp q1 = y1 from HD1.out, show dpt (d.noted r).dp q = y from HD2.out]; exact hyy))
        have nj : ¬ j = 1 := by omega
        clear R hyy
        go_wp2_with fail
        go_quiet (first
          | (go_at_call 93; with_reducible exact calm_one CN1.out)
          | (go_at_call 93; with_reducible exact calm_one CN2.out)
          | (go_at_call 93; with_reducible exact calm_two CN1.out)
          | (go_at_call 93; with_reducible exact calm_two CN2.out))
        go_wp2_with fail
        go_region
        go_wp2_with fail
        go_roundw
        case rel => exact ⟨j + 1, _, by omega, .inr (by omega), by go_num, HN.out (wr.drewN _) (Below.draws (Below.refl _ _) _)⟩
        case measure => simp [intOf]; omega
      · have d1 : ¬ (y1 : Int) < (y : Int) := by omega
        have HN := Lib.hid (show ∀ W : World, Below wr.heap.size wr W → LsR B τ1 w1 p n (d.noted r) (oth x) g cap K.length K M (j + 1) W from fun W b => (R.out.below b).stay HQ1.out hj2 HQ.out (by rw [show dpt (d.noted r).dp q1 = y1 from HD1.out, show dpt (d.noted r).dp q = y from HD2.out]; omega))
        clear R hyy
        go_wp2_with fail
        go_quiet (first
          | (go_at_call 93; with_reducible exact calm_one CN1.out)
          | (go_at_call 93; with_reducible exact calm_one CN2.out)
          | (go_at_call 93; with_reducible exact calm_two CN1.out)
          | (go_at_call 93; with_reducible exact calm_two CN2.out))
        go_wp2_with fail
        go_roundw
        case rel => exact ⟨j + 1, M, by omega, .inr (by omega), by go_num, HN.out _ (Below.draws (Below.refl _ _) _)⟩
        case measure => simp [intOf]; omega
    · have HE := Lib.hid (HEND.out M wr (by
        rcases hj3 with rfl | h
        · by_cases e : K.length + 1 = 2
          · left; rw [e]; exact R.out
          · right; exact ⟨by omega, R.out⟩
        · left
          rw [show K.length + 1 = j by omega]; exact R.out))
      have b1 : ¬ (j : Int) < (K.length : Int) + 1 := by omega
      clear R HEND
      go_wp2_with fail
      go_ret
      exact HE.out
end
end Go.Proofs.YtcebpbjpbnfacaaGreat
