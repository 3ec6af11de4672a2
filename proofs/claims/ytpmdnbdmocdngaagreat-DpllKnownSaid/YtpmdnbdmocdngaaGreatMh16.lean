/-
  Parts of the proof, joined: DpllN2, DpllO, DpllJ2.
-/
import Derived.Test.YtpmdnbdmocdngaaGreatMh15
import Derived.Deep.OwnRows

namespace Go.Proofs.YtpmdnbdmocdngaaGreat
open Go.ChangeShapes Go.WideShapes Go.ChangeAt Go.RowKit
set_option linter.unusedVariables false
set_option linter.unusedSimpArgs false

theorem Nt.all_len (dp : List Nat) (M : Nat) : ∀ (xs : List Nat) (s : Nt), (Nt.all dp M s xs).se.length = s.se.length ∧ (Nt.all dp M s xs).nu.length ≤ s.nu.length + xs.length ∧ (Nt.all dp M s xs).ls.length ≤ s.ls.length + xs.length ∧ (Nt.all dp M s xs).last ≤ s.last + xs.length
  | [], s => ⟨rfl, by simp [Nt.all], by simp [Nt.all], by simp [Nt.all]⟩
  | x :: xs, s => by
    obtain ⟨a1, a2, a3, a4⟩ := Nt.one_len dp M s x
    obtain ⟨b1, b2, b3, b4⟩ := Nt.all_len dp M xs (Nt.one dp M s x)
    have e : Nt.all dp M s (x :: xs) = Nt.all dp M (Nt.one dp M s x) xs := rfl
    rw [e, List.length_cons]
    exact ⟨b1.trans a1, by omega, by omega, by omega⟩
theorem NoRel.below {B B0 : Nat} {τ : Nat → Nat} {w : World} {p n : Nat} {d : Sd} {b k ga capa gl capl : Nat} {c : Cl} {s : Nt} {m : Nat} {wr wr' : World} (h : NoRel B B0 τ w p n d b k ga capa gl capl c s m wr) (hb : Below wr.heap.size wr wr') : NoRel B B0 τ w p n d b k ga capa gl capl c s m wr' := by
  obtain ⟨τ1, A1, cap1, r, bx, t, cc⟩ := h.ex
  exact ⟨⟨τ1, A1, cap1, r.below hb, bx.below hb, t.trans (.of_stp (Stp.of_below τ1 hb)), cc.step (R := fun _ => False) r.plt (Step.of_below _ τ1 hb) id id id⟩, fun j hj => (hb.cell (p := ⟨p, j, none⟩) r.plt).trans (h.hd j hj)⟩
section
variable {B B0 : Nat} {τ : Nat → Nat} {w : World} {p n : Nat} {d : Sd}
set_option maxHeartbeats 1600000 in
theorem note_any (h : Sr B τ w p n d) (L : Len n d) (hB : B ≤ B0) (hB2 : B0 ≤ w.heap.size) {b cap k : Nat} {A : Option Addr} {ls0 : List Nat} (X : Bx B0 τ w b A cap ls0) {c : Cl} (hk : d.cls[k]? = some c) (hkb : k < 2147483648) (hcl : 0 < c.ls.length) (hcb : c.ls.length ≤ 131072) (hls : ∀ l ∈ c.ls, l < 2 * n) (hnu : d.nu.length ≤ 2000000) (hls0 : ls0.length ≤ 2000000) (hdp : ∀ v ∈ d.dp, v ≤ n) :
    Calls Tryz.prog 173 #[ptr p, .int .i32 (k : Int), ptr b] w (NoPost B B0 τ w p n d b (Nt.all d.dp d.ma.length ⟨d.se, d.nu, ls0, 0⟩ c.ls)) := by
  have hn := L.nb
  obtain ⟨ga, capa, gl, capl, ca⟩ := h.claim hk hcl
  have HL := Lib.hid L
  have HLS := Lib.hid hls
  have HDP := Lib.hid hdp
  have HK := Lib.hid hk
  have H0 := Lib.hid (show NoRel B B0 τ w p n d b k ga capa gl capl c ⟨d.se, d.nu, ls0, 0⟩ d.cls.length w from ⟨⟨τ, A, cap, h, X, Stq.refl _ _ _, ca⟩, fun _ _ => rfl⟩)
  have fa := ca.head
  have ale := ca.le
  have amx := ca.mx
  have fl := ca.lit
  have za := ca.alt
  have lle := ca.lle
  have lmx := ca.lmx
  have k0 : (0 : Int) ≤ (k : Int) := by omega
  have k1 : (k : Int) < (d.cls.length : Int) := by have := ca.hk; omega
  have zp := h.plt
  clear h L hk hls ca X hdp
  go_enter Tryz.func173, Tryz.ntmps173
  go_wp2_with fail
  go_loopw [7, 20] (fun mv iv wr => ∃ (j : Nat) (st : Nt), j ≤ c.ls.length ∧ iv = .int .i64 j ∧ mv = .int .i64 (st.last : Int) ∧ Hid (st = Nt.all d.dp d.ma.length ⟨d.se, d.nu, ls0, 0⟩ (c.ls.take j)) ∧ Hid (NoRel B B0 τ w p n d b k ga capa gl capl c st d.cls.length wr)) (fun _ iv _ => c.ls.length - (intOf iv).toNat)
  case atStart => exact ⟨0, ⟨d.se, d.nu, ls0, 0⟩, by omega, rfl, rfl, rfl, H0⟩
  case round =>
    obtain ⟨j, st, hj, rfl, rfl, HS, HR⟩ := hrel
    by_cases hlt : j < c.ls.length
    · obtain ⟨x, hx⟩ : ∃ x, c.ls[j]? = some x := ⟨_, List.getElem?_eq_getElem hlt⟩
      have hx2 := HLS.out x (List.mem_of_getElem? hx)
      obtain ⟨τ1, A1, cap1, r, bx, t, cc⟩ := HR.out.ex
      have R := Lib.hid r
      have BX := Lib.hid bx
      have T := Lib.hid t
      have C := Lib.hid cc
      have HN := Lib.hid (show Nt.all d.dp d.ma.length ⟨d.se, d.nu, ls0, 0⟩ (c.ls.take (j + 1)) = Nt.one d.dp d.ma.length st x by
        rw [List.take_succ_eq_append_getElem hlt, Nt.all_snoc, ← HS.out, (List.getElem?_eq_some_iff.1 hx).2])
      obtain ⟨m1, m2, m3, m4⟩ := Nt.all_len d.dp d.ma.length (c.ls.take j) ⟨d.se, d.nu, ls0, 0⟩
      rw [← HS.out] at m1 m2 m3 m4
      have N1 := Lib.hid (show st.se.length = n by rw [m1]; exact HL.out.se)
      have n2 : st.nu.length ≤ 2000000 + 131072 := by have : st.nu.length ≤ d.nu.length + (c.ls.take j).length := m2; rw [List.length_take] at this; omega
      have n3 : st.ls.length ≤ 2000000 + 131072 := by have : st.ls.length ≤ ls0.length + (c.ls.take j).length := m3; rw [List.length_take] at this; omega
      have n4 : st.last ≤ 131072 := by have : st.last ≤ 0 + (c.ls.take j).length := m4; rw [List.length_take] at this; omega
      clear m1 m2 m3 m4
      have xk := C.out.cell j x hx
      have zl := C.out.llt
      have CN := Lib.hid (fun W => lnum_any x W (by omega))
      obtain ⟨v, hv⟩ : ∃ v, x / 2 = v := ⟨_, rfl⟩
      have hvn : v < n := by omega
      obtain ⟨g13, c13, a13⟩ := R.out.at_se (by show 0 < st.se.length; rw [N1.out]; omega)
      obtain ⟨sv, hsv⟩ : ∃ sv, st.se[v]? = some sv := ⟨_, List.getElem?_eq_getElem (by rw [N1.out]; omega)⟩
      obtain ⟨g6, c6, a6⟩ := R.out.at_dp (by show 0 < d.dp.length; rw [HL.out.dp]; omega)
      obtain ⟨y, hy⟩ : ∃ y, d.dp[v]? = some y := ⟨_, List.getElem?_eq_getElem (by rw [HL.out.dp]; omega)⟩
      have hyn := HDP.out y (List.mem_of_getElem? hy)
      have HG := Lib.hid (show st.se.getD (x / 2) false = sv ∧ dpt d.dp x = y by
        unfold dpt; rw [hv, List.getD_eq_getElem?_getD, List.getD_eq_getElem?_getD, hsv, hy]; exact ⟨rfl, rfl⟩)
      have f13 : wr.cell? ⟨p, 13, none⟩ = some (.slice (some ⟨g13, 0, none⟩) st.se.length c13) := a13.len_se.1
      have l13 : st.se.length ≤ c13 := a13.len_se.2
      have k13 := a13.cap
      have x13 : wr.cell? ⟨g13, v, none⟩ = some (.bool sv) := a13.se hsv
      have r13 := a13.free
      have z13 := a13.lt
      have f6 : wr.cell? ⟨p, 6, none⟩ = some (.slice (some ⟨g6, 0, none⟩) d.dp.length c6) := a6.len_dp.1
      have l6 : d.dp.length ≤ c6 := a6.len_dp.2
      have k6 := a6.cap
      have x6 : wr.cell? ⟨g6, v, none⟩ = some (.int .i32 (y : Int)) := a6.dp hy
      have z6 := a6.lt
      have zp := R.out.plt
      have e13 : v < st.se.length := by rw [N1.out]; omega
      have e6 : v < d.dp.length := by rw [HL.out.dp]; omega
      have A13 := Lib.hid a13
      have HX := Lib.hid hx
      have HV := Lib.hid hv
      have HY := Lib.hid hy
      have v0 : (0 : Int) ≤ (v : Int) := by omega
      have v13 : (v : Int) < (st.se.length : Int) := by omega
      have v6 : (v : Int) < (d.dp.length : Int) := by omega
      rw [hv] at CN
      clear r bx t cc hx a13 a6 hsv hy hv
      cases sv with
      | true =>
        have HN2 := Lib.hid (show Nt.all d.dp d.ma.length ⟨d.se, d.nu, ls0, 0⟩ (c.ls.take (j + 1)) = st by rw [HN.out]; unfold Nt.one; rw [if_pos (.inl HG.out.1)])
        go_wp2_with fail
        (with_reducible refine (CN.out _).mono ?_)
        rintro e we ⟨rfl, rfl⟩
        go_wp2_with fail
        go_roundw
        case rel => exact ⟨j + 1, st, by omega, by go_num, rfl, HN2.out.symm, HR⟩
        case measure => simp [intOf]; omega
      | false =>
        by_cases hy0 : y = 0
        · subst hy0
          have HN2 := Lib.hid (show Nt.all d.dp d.ma.length ⟨d.se, d.nu, ls0, 0⟩ (c.ls.take (j + 1)) = st by rw [HN.out]; unfold Nt.one; rw [if_pos (.inr HG.out.2)])
          go_wp2_with fail
          (with_reducible refine (CN.out _).mono ?_)
          rintro e we ⟨rfl, rfl⟩
          go_wp2_with fail
          go_roundw
          case rel => exact ⟨j + 1, st, by omega, by go_num, rfl, HN2.out.symm, HR⟩
          case measure => simp [intOf]; omega
        · have hy1 : ((y : Int) == 0) = false := beq_eq_false_iff_ne.2 (by omega)
          have hy2 : ¬ (y : Int) = 0 := by omega
          have HN2 := Lib.hid (show Nt.all d.dp d.ma.length ⟨d.se, d.nu, ls0, 0⟩ (c.ls.take (j + 1)) = { se := st.se.set v true, nu := st.nu ++ [v], ls := if y = d.ma.length then st.ls else st.ls ++ [x], last := if y = d.ma.length then st.last + 1 else st.last } by
            rw [HN.out]; unfold Nt.one
            rw [if_neg (fun h => h.elim (fun h => by rw [HG.out.1] at h; cases h) (fun h => by rw [HG.out.2] at h; exact hy0 h)), HG.out.2, HV.out])
          obtain ⟨s1, s2, s3, s4, s5⟩ := No.seen R.out BX.out C.out HK.out hcl rfl A13.out (show v < st.se.length from e13) true
          obtain ⟨AN, c0, f14, ho⟩ := s1.own_nu
          have f14' : (wr.setCell ⟨g13, v, none⟩ (.bool true)).cell? ⟨p, 14, none⟩ = some (.slice AN st.nu.length c0) := f14
          have HO := Lib.hid (show (wr.setCell ⟨g13, v, none⟩ (.bool true)).ownsRow 0 21 1 (.slice AN st.nu.length c0) st.nu.length (n32 st.nu) from ho)
          have FIN := Lib.hid (No.numb s1 s2 s4 HK.out hcl rfl v f14)
          have T1 := Lib.hid (T.out.trans (.of_stp s3))
          obtain ⟨i0, hi0, hz0, hz1, hz2⟩ := info_parts infoI32
          have HI := Lib.hid (show _ ∧ _ ∧ _ ∧ _ from ⟨hi0, hz0, hz1, hz2⟩)
          have zp1 := s1.plt
          have D1 := Lib.hid (fun j (hj : j ≠ 14) => (s5 j hj).trans (HR.out.hd j hj))
          have np13 := A13.out.ne
          clear hi0 hz0 hz1 hz2 s1 s2 s3 s4 s5 ho f14 HR HS
          go_wp2_with fail
          (with_reducible refine (CN.out _).mono ?_)
          rintro e we ⟨rfl, rfl⟩
          go_wp2_with (at_builtin; refine wpList_append_lies _ rfl _ _ _ rfl 0 21 i0 _ 1 4 Tryz.underlying122 HI.out.1 HI.out.2.1 HI.out.2.2.1 HI.out.2.2.2 rfl (by omega) (.slice AN st.nu.length c0) st.nu.length (n32 st.nu) rfl (HO.out.alloc _) ⟨wr.heap.size, 0, none⟩ 1 1 [.int .i32 (v : Int)] rfl rfl (World.news_of_block (cs := #[.int .i32 (v : Int)]) (t := 21) (fr := (0, 0)) (new_at (W := wr.setCell ⟨g13, v, none⟩ (.bool true)) (by simp [World.setCell]) rfl)) (by simp [Value.oneCell']) (by omega) (by unfold maxLen; omega) (by omega) (Nat.zero_le _) (wr.heap.size + 1) (by simp [World.setCell]) ?_; intro g1 c1 wp hown1 hg1 hat1 hlt1; have HF := FIN.out wp c1 g1 hg1 hown1 (hat1.imp id (fun e => by rw [e]; simp [World.setCell])); have c9 := HF.1.1; have r9 := HF.1.2; have HFF := Lib.hid HF.2; clear hown1 hg1 hat1 hlt1 HF)
          obtain ⟨τ2, r2, bx2, t2, cc2, d2⟩ := HFF.out
          have R2 := Lib.hid (show Sr B τ2 (wp.setCell ⟨p, 14, none⟩ (.slice (some ⟨g1, 0, none⟩) (st.nu.length + 1) c1)) p n (d.noted { se := st.se.set v true, nu := st.nu ++ [v], ls := st.ls, last := st.last }) from r2)
          have BX2 := Lib.hid (show Bx B0 τ2 (wp.setCell ⟨p, 14, none⟩ (.slice (some ⟨g1, 0, none⟩) (st.nu.length + 1) c1)) b A1 cap1 st.ls from bx2)
          have T2 := Lib.hid (show Stq B0 τ τ2 w (wp.setCell ⟨p, 14, none⟩ (.slice (some ⟨g1, 0, none⟩) (st.nu.length + 1) c1)) from T1.out.trans (.of_stp t2))
          have C2 := Lib.hid (show Cla τ2 (wp.setCell ⟨p, 14, none⟩ (.slice (some ⟨g1, 0, none⟩) (st.nu.length + 1) c1)) p d.cls.length k c ga capa gl capl from cc2)
          have D2 := Lib.hid (show ∀ j, j ≠ 14 → (wp.setCell ⟨p, 14, none⟩ (.slice (some ⟨g1, 0, none⟩) (st.nu.length + 1) c1)).cell? ⟨p, j, none⟩ = w.cell? ⟨p, j, none⟩ from fun j hj => (d2 j hj).trans (D1.out j hj))
          clear D1 d2
          clear r2 bx2 t2 cc2 HFF c9 r9 FIN HO f13 x13 z13 r13 f6 x6 z6 k6 l6 T1 R BX T C f14' zp1 xk zl np13
          generalize (wp.setCell ⟨p, 14, none⟩ (.slice (some ⟨g1, 0, none⟩) (st.nu.length + 1) c1)) = W2 at *
          obtain ⟨g7, c7, a7⟩ := R2.out.at_dp (by show 0 < d.dp.length; rw [HL.out.dp]; omega)
          obtain ⟨AM, cm, f4, _⟩ := R2.out.head_ma
          have f4' : W2.cell? ⟨p, 4, none⟩ = some (.slice AM d.ma.length cm) := f4
          have f7 : W2.cell? ⟨p, 6, none⟩ = some (.slice (some ⟨g7, 0, none⟩) d.dp.length c7) := a7.len_dp.1
          have l7 : d.dp.length ≤ c7 := a7.len_dp.2
          have k7 := a7.cap
          have x7 : W2.cell? ⟨g7, v, none⟩ = some (.int .i32 (y : Int)) := a7.dp HY.out
          have z7 := a7.lt
          have zp2 := R2.out.plt
          have hml : d.ma.length ≤ 65536 := by have := HL.out.ma; omega
          clear a7 f4
          by_cases hyM : y = d.ma.length
          · have e1 : ((y : Int) == (d.ma.length : Int)) = true := by rw [beq_iff_eq]; omega
            have HN3 := Lib.hid (show Nt.all d.dp d.ma.length ⟨d.se, d.nu, ls0, 0⟩ (c.ls.take (j + 1)) = { se := st.se.set v true, nu := st.nu ++ [v], ls := st.ls, last := st.last + 1 } by rw [HN2.out, if_pos hyM, if_pos hyM])
            have HE : Hid (NoRel B B0 τ w p n d b k ga capa gl capl c { se := st.se.set v true, nu := st.nu ++ [v], ls := st.ls, last := st.last + 1 } d.cls.length W2) := ⟨⟨τ2, A1, cap1, R2.out, BX2.out, T2.out, C2.out⟩, D2.out⟩
            have e2 : (d.ma.length : Int) = (y : Int) := by omega
            go_wp2_with fail
            go_quiet (fail)
            go_wp2_with fail
            go_roundw
            case rel => exact ⟨j + 1, _, by omega, by go_num, by show _ = Value.int .i64 ((st.last + 1 : Nat) : Int); go_num, HN3.out.symm, HE.out.below (Below.draws (Below.refl _ _) _)⟩
            case measure => simp [intOf]; omega
          · have e1 : ((y : Int) == (d.ma.length : Int)) = false := beq_eq_false_iff_ne.2 (by omega)
            have HN3 := Lib.hid (show Nt.all d.dp d.ma.length ⟨d.se, d.nu, ls0, 0⟩ (c.ls.take (j + 1)) = { se := st.se.set v true, nu := st.nu ++ [v], ls := st.ls ++ [x], last := st.last } by rw [HN2.out, if_neg hyM, if_neg hyM])
            go_wp2_with fail
            go_quiet (fail)
            have B1 : Below W2.heap.size W2 (W2.drewN nq) := Below.draws (Below.refl _ _) nq
            have R3 := Lib.hid (R2.out.below B1)
            have BX3 := Lib.hid (BX2.out.below B1)
            have T3 := Lib.hid (T2.out.trans (.of_stp (Stp.of_below τ2 B1)))
            have C3 := Lib.hid (C2.out.step (R := fun _ => False) zp2 (Step.of_below _ τ2 B1) id id id)
            have D3 := Lib.hid (fun j (hj : j ≠ 14) => (B1.cell (p := ⟨p, j, none⟩) zp2).trans (D2.out j hj))
            clear B1 R2 BX2 T2 C2 D2 f4' f7 x7 z7 zp2
            generalize W2.drewN nq = W3 at *
            have hs3 : B0 ≤ W3.heap.size := Nat.le_trans hB2 T3.out.size
            have FIN := Lib.hid (No.lits R3.out BX3.out C3.out HK.out hcl rfl hB hs3 x)
            have HO := Lib.hid BX3.out.row.1
            have fb := BX3.out.at_
            have zb := BX3.out.lt
            obtain ⟨i1, hi0, hz0, hz1, hz2⟩ := info_parts infoLit
            have HI := Lib.hid (show _ ∧ _ ∧ _ ∧ _ from ⟨hi0, hz0, hz1, hz2⟩)
            clear hi0 hz0 hz1 hz2
            go_wp2_with (at_builtin; refine wpList_append_lies _ rfl _ _ _ rfl 0 138 i1 _ 1 4 Tryz.underlying123 HI.out.1 HI.out.2.1 HI.out.2.2.1 HI.out.2.2.2 rfl (by omega) (.slice A1 st.ls.length cap1) st.ls.length (n32 st.ls) rfl (HO.out.alloc _) ⟨W3.heap.size, 0, none⟩ 1 1 [.int .i32 (x : Int)] rfl rfl (World.news_of_block (cs := #[.int .i32 (x : Int)]) (t := 138) (fr := (0, 0)) (new_heap W3 _)) (by simp [Value.oneCell']) (by omega) (by unfold maxLen; omega) (by omega) (Nat.zero_le _) (W3.heap.size + 1) (by simp) ?_; intro g1 c1 wp hown1 hg1 hat1 hlt1; have HF := FIN.out wp c1 g1 hg1 hown1 hat1; have c9 := HF.1.1; have r9 := HF.1.2; have HFF := Lib.hid HF.2; clear hown1 hg1 hat1 hlt1 HF)
            obtain ⟨τ4, A4, cap4, r4, bx4, t4, cc4, d4⟩ := HFF.out
            have HE : Hid (NoRel B B0 τ w p n d b k ga capa gl capl c { se := st.se.set v true, nu := st.nu ++ [v], ls := st.ls ++ [x], last := st.last } d.cls.length (wp.setCell ⟨b, 0, none⟩ (.slice (some ⟨g1, 0, none⟩) (st.ls.length + 1) c1))) := ⟨⟨τ4, A4, cap4, r4, bx4, T3.out.trans t4, cc4⟩, fun j hj => (d4 j hj).trans (D3.out j hj)⟩
            clear r4 bx4 t4 cc4 d4
            go_roundw
            case rel => exact ⟨j + 1, { se := st.se.set v true, nu := st.nu ++ [v], ls := st.ls ++ [x], last := st.last }, by omega, by go_num, rfl, HN3.out.symm, HE.out⟩
            case measure => simp [intOf]; omega
    · obtain rfl : j = c.ls.length := by omega
      have HE := Lib.hid (show st = Nt.all d.dp d.ma.length ⟨d.se, d.nu, ls0, 0⟩ c.ls by have := HS.out; rwa [List.take_length] at this)
      go_wp2_with fail
      go_ret
      obtain ⟨τ1, A1, cap1, r, bx, t, cc⟩ := HR.out.ex
      exact ⟨by rw [← HE.out]; rfl, τ1, A1, cap1, by rw [← HE.out]; exact r, by rw [← HE.out]; exact bx, t, HR.out.hd⟩
end
end Go.Proofs.YtpmdnbdmocdngaaGreat

namespace Go.Proofs.YtpmdnbdmocdngaaGreat
open Go.ChangeShapes Go.WideShapes Go.ChangeAt Go.RowKit
set_option linter.unusedVariables false
set_option linter.unusedSimpArgs false

/-- A claim that may be noted. -/
def CGood (n : Nat) (c : Cl) : Prop := 0 < c.ls.length ∧ c.ls.length ≤ 131072 ∧ ∀ l ∈ c.ls, l < 2 * n
/-- One more claim noted. -/
def Nt.more (d : Sd) (s : Nt) (c : Cl) : Nt :=
  let t := Nt.all d.dp d.ma.length { s with last := 0 } c.ls
  { t with last := s.last + t.last - 1 }
/-- Back along the trail: of what stands below i. -/
inductive Gat (d : Sd) (n : Nat) : Nat → Nt → Nt → Prop
  | skip {i : Nat} {s r : Nt} {x : Nat} : d.tr[i]? = some x → s.se.getD (x / 2) false = false → Gat d n i s r → Gat d n (i + 1) s r
  | done {i : Nat} {s : Nt} {x : Nat} : d.tr[i]? = some x → s.se.getD (x / 2) false = true → s.last = 1 → 0 < s.ls.length → Gat d n (i + 1) s { s with ls := s.ls.set 0 (oth x) }
  | note {i : Nat} {s r : Nt} {x k : Nat} {c : Cl} : d.tr[i]? = some x → s.se.getD (x / 2) false = true → 2 ≤ s.last → s.last ≤ 2000000 → d.wy[x / 2]? = some (k : Int) → k < 2147483648 → d.cls[k]? = some c → CGood n c → s.nu.length ≤ n → s.ls.length ≤ 2000000 → Gat d n i (s.more d c) r → Gat d n (i + 1) s r
theorem Nt.more_len (d : Sd) (s : Nt) (c : Cl) : (s.more d c).se.length = s.se.length := (Nt.all_len d.dp d.ma.length c.ls { s with last := 0 }).1
def GaPost (B : Nat) (τ : Nat → Nat) (w : World) (p n : Nat) (d : Sd) (r : Nt) (e : Ending) (w' : World) : Prop :=
  ∃ τ' A cap, e = .returned (.slice A r.ls.length cap) ∧ Sr B τ' w' p n (d.noted r) ∧ RowN τ' 0 w' 138 1 (.slice A r.ls.length cap) r.ls.length (n32 r.ls) ∧ (∀ g, Value.ownBlock (.slice A r.ls.length cap) = some g → w.heap.size ≤ g) ∧ Stp τ τ' w w'
/-- What a round of gather finds. -/
structure GaRel (B : Nat) (τ : Nat → Nat) (w : World) (p n : Nat) (d : Sd) (b : Nat) (s : Nt) (wr : World) : Prop where
  ex : ∃ τ' A cap, Sr B τ' wr p n (d.noted s) ∧ Bx w.heap.size τ' wr b A cap s.ls ∧ Stp τ τ' w wr
  se : s.se.length = n
section
variable {B : Nat} {τ : Nat → Nat} {w : World} {p n : Nat} {d : Sd}
theorem Len.noted (L : Len n d) {s : Nt} (h : s.se.length = n) (h2 : s.nu.length ≤ n) : Len n (d.noted s) := ⟨L.nb, L.wo, L.dp, L.wy, L.lk, L.sc, h, L.co, L.tr, L.ma, h2⟩
theorem Bx.head {B0 b cap : Nat} {A : Option Addr} {ls : List Nat} (X : Bx B0 τ w b A cap ls) (hl : 0 < ls.length) : ∃ g, A = some ⟨g, 0, none⟩ ∧ τ g = 0 ∧ B0 ≤ g ∧ g ≠ b ∧ g < w.heap.size ∧ ls.length ≤ cap ∧ cap ≤ 9223372036854775807 ∧ (∀ i, w.frozen? ⟨g, i, none⟩ = false) ∧ (∀ (i q : Nat), ls[i]? = some q → w.cell? ⟨g, i, none⟩ = some (.int .i32 (q : Int))) := by
  rcases X.row.at with ⟨_, h1⟩ | ⟨g, cap', cur, h0, hb, h1, h2, h3, h4⟩
  · omega
  · injection h0 with h0 _ h5
    subst h0; subst h5
    obtain ⟨r1, r2⟩ := X.rowge g rfl
    exact ⟨g, rfl, hb.2, r1, r2, hb.lt, h1, h2, hb.free, fun i q hq => X.row.cell (by simp [n32, hq])⟩
theorem Bx.store {B0 b cap g : Nat} {ls : List Nat} (X : Bx B0 τ w b (some ⟨g, 0, none⟩) cap ls) (S : Sr B τ w p n d) (hl : 0 < ls.length) (x : Nat) :
    Sr B τ (w.setCell ⟨g, 0, none⟩ (.int .i32 (x : Int))) p n d ∧ Bx B0 τ (w.setCell ⟨g, 0, none⟩ (.int .i32 (x : Int))) b (some ⟨g, 0, none⟩) cap (ls.set 0 x) ∧ Stq B0 τ τ w (w.setCell ⟨g, 0, none⟩ (.int .i32 (x : Int))) := by
  obtain ⟨g', e, rg, gg, gb, gl, _⟩ := X.head hl
  injection e with e; injection e with e
  subst e
  have k1 : Step (fun r => r = 0) τ τ w (w.setCell ⟨g, 0, none⟩ (.int .i32 (x : Int))) := Step.set _ _ rg
  refine ⟨?_, ⟨X.role, X.ge, ?_, ?_, ?_, fun g2 hg2 => ?_⟩, ⟨k1.kept.os, k1.kept.tape, k1.kept.output, k1.kept.size, fun k hk h0 hB => set_other (p := ⟨g, 0, none⟩) (fun e => by have e : k = g := e; omega), fun _ _ h => h⟩⟩
  · obtain ⟨pcs, S⟩ := S
    exact ⟨pcs, S.step k1 (fun r hr e => by omega)⟩
  · rw [List.length_set]; exact (World.cell?_of_block (a := ⟨b, 0, none⟩) (set_other (p := ⟨g, 0, none⟩) gb.symm)).trans X.at_
  · rw [World.frozen?_setCell]; exact X.free
  · have := X.row.store (i := 0) (by omega) (.int .i32 (x : Int))
    rw [List.length_set]
    have e : n32 (ls.set 0 x) = (n32 ls).set 0 (.int .i32 (x : Int)) := by simp [n32, List.map_set]
    rw [e]; exact this
  · rw [List.length_set] at hg2; exact X.rowge g2 hg2
theorem Sr.why_again {w' : World} {τ' : Nat → Nat} {d' : Sd} {g cap v : Nat} {y : Int} (R' : Sr B τ' w' p n d') (hd : d'.wy[v]? = some y) (hc : w'.cell? ⟨p, 7, none⟩ = some (.slice (some ⟨g, 0, none⟩) d'.wy.length cap)) : w'.cell? ⟨g, v, none⟩ = some (.int .i32 y) := by
  obtain ⟨g', c', a⟩ := R'.at_wy (by have := (List.getElem?_eq_some_iff.1 hd).1; omega)
  have e := a.len_wy.1
  rw [hc] at e
  injection e with e; injection e with e; injection e with e; injection e with e
  subst e
  exact a.wy hd
end
end Go.Proofs.YtpmdnbdmocdngaaGreat

namespace Go.Proofs.YtpmdnbdmocdngaaGreat
open Go.RowKit
set_option linter.unusedVariables false
set_option linter.unusedSimpArgs false

/-- All that holds of a search. -/
structure Iv (n : Nat) (K0 : Nat → Prop) (Mo : (Nat → Bool) → Prop) (d : Sd) : Prop where
  L : Len n d
  T : Tl n K0 d
  C : Cs n K0 d.cls
  W : Wt n d.cls d.F
  Y : Wy d
  S : Sem Mo d
  hb : d.cls.length < 2147483648
/-- Gone is gone through: the watches of it that were seen and stay, and those that are still to be seen. -/
structure Vs (n : Nat) (K0 : Nat → Prop) (Mo : (Nat → Bool) → Prop) (d0 d : Sd) (gone : Nat) (kept rest : List (Nat × Nat)) : Prop where
  I : Iv n K0 Mo d
  P : Pr d (fun k x => x = gone ∧ k ∈ rest.map (·.1))
  F : d.F gone = kept ++ rest
  V : Fol d0 d
  g : gone < 2 * n
  gw : wv d.wo gone = -1
  gd : dpt d.dp gone = d.ma.length
def Sd.mem (d : Sd) (g : Nat) (l : List (Nat × Nat)) : Sd := { d with F := Fs d.F g l }
theorem two_of {ls : List Nat} {a b : Nat} (h0 : ls[0]? = some a) (h1 : ls[1]? = some b) : ∃ t, ls = a :: b :: t := by
  match ls, h0, h1 with
  | x :: y :: t, h0, h1 => exact ⟨t, by simp at h0 h1; rw [h0, h1]⟩
theorem perm_set {g q : Nat} : ∀ (t : List Nat) (j : Nat), t[j]? = some q → (q :: t.set j g).Perm (g :: t)
  | [], j, h => by simp at h
  | a :: t, 0, h => by
    have : a = q := by simpa using h
    subst this
    exact List.Perm.swap _ _ _
  | a :: t, j + 1, h => by
    have ih := perm_set (g := g) t j (by simpa using h)
    exact (List.Perm.swap _ _ _).trans ((ih.cons a).trans (List.Perm.swap _ _ _))
section
variable {n : Nat} {K0 : Nat → Prop} {Mo : (Nat → Bool) → Prop} {d0 d : Sd} {gone k y : Nat} {kept rest : List (Nat × Nat)}
theorem Tl.dle (t : Tl n K0 d) {x : Nat} (hx : x < 2 * n) (h1 : wv d.wo x = 1) (hk : ¬ K0 x) : dpt d.dp x ≤ d.ma.length := by
  rcases (t.one x hx).1 h1 with h | h
  · obtain ⟨j, hj⟩ := List.getElem?_of_mem h
    rw [dpt_of (t.dp j x hj)]; exact lev_le _ _
  · exact absurd h hk
theorem Iv.nodup_len (h : Iv n K0 Mo d) {c : Cl} (hk : d.cls[k]? = some c) : c.ls.length ≤ 2 * n := nodup_le (2 * n) _ (h.C.nd k c hk) fun z hz => (h.C.lt k c hk z hz).1
theorem Iv.cgood (h : Iv n K0 Mo d) {c : Cl} (hk : d.cls[k]? = some c) : CGood n c := by
  have h1 := h.nodup_len hk
  have h2 := h.C.len k c hk
  have h3 := h.L.nb
  exact ⟨by omega, by omega, fun l hl => (h.C.lt k c hk l hl).1⟩
theorem Vs.entry (v : Vs n K0 Mo d0 d gone kept ((k, y) :: rest)) : ∃ c, d.cls[k]? = some c ∧ (c.ls[0]? = some gone ∨ c.ls[1]? = some gone) ∧ y ∈ c.ls ∧ y ≠ gone := v.I.W.wa gone v.g k y (by rw [v.F]; simp)
/-- A watch whose other literal holds stays. -/
theorem Vs.keep (v : Vs n K0 Mo d0 d gone kept ((k, y) :: rest)) (hy : wv d.wo y = 1) : Vs n K0 Mo d0 d gone (kept ++ [(k, y)]) rest := by
  obtain ⟨c, hc, h1, h2, h3⟩ := v.entry
  refine ⟨v.I, v.P.less fun k' x he => ?_, by rw [v.F]; simp, v.V, v.g, v.gw, v.gd⟩
  obtain ⟨rfl, hm⟩ := he
  rcases List.mem_cons.1 hm with e | hm
  · have e : k' = k := e
    subst e
    refine .inr fun c' i hc' _ _ => ?_
    rw [hc] at hc'; injection hc' with hc'; subst hc'
    obtain ⟨hyn, hyk, _⟩ := v.I.C.lt _ _ hc y h2
    exact ⟨y, h2, hy, by rw [v.gd]; exact v.I.T.dle hyn hy hyk⟩
  · exact .inl ⟨rfl, hm⟩
theorem Vs.swap (v : Vs n K0 Mo d0 d gone kept ((k, y) :: rest)) {c : Cl} {first : Nat} (hk : d.cls[k]? = some c) (h0 : c.ls[0]? = some gone) (h1 : c.ls[1]? = some first) : Vs n K0 Mo d0 { d with cls := d.cls.set k { c with ls := (c.ls.set 0 first).set 1 gone } } gone kept ((k, y) :: rest) := by
  obtain ⟨t, ht⟩ := two_of h0 h1
  have e : (c.ls.set 0 first).set 1 gone = first :: gone :: t := by rw [ht]; rfl
  have hp : ((c.ls.set 0 first).set 1 gone).Perm c.ls := by rw [e, ht]; exact List.Perm.swap _ _ _
  have cp := CP.set (c' := { c with ls := (c.ls.set 0 first).set 1 gone }) hk hp rfl
  have L := v.I.L
  refine ⟨⟨⟨L.nb, L.wo, L.dp, L.wy, L.lk, L.sc, L.se, L.co, L.tr, L.ma, L.nu⟩, ⟨v.I.T.w, v.I.T.tl, v.I.T.nd, v.I.T.one, v.I.T.k0, v.I.T.ma, v.I.T.mb, v.I.T.dp, v.I.T.nx, v.I.T.mx⟩, v.I.C.set hk hp ?_, v.I.W.swap hk hp ?_ ?_, v.I.Y.perm cp, v.I.S.perm cp, by show (d.cls.set _ _).length < _; rw [List.length_set]; exact v.I.hb⟩, v.P.reset v.I.T v.I.C hk hp fun i x hi hx => ?_, v.F, v.V.trans ⟨cp, ⟨[], by simp⟩, fun _ h _ => h, _, _, _, _, _, _, _, _, _, rfl⟩, v.g, v.gw, v.gd⟩
  · obtain ⟨f, a, b, c0⟩ := v.I.C.fr k c hk
    exact ⟨f, a, b, by show f ≤ ((c.ls.set 0 first).set 1 gone).length; rw [hp.length_eq]; exact c0⟩
  · show ((c.ls.set 0 first).set 1 gone)[0]? = _; rw [e, ht]; rfl
  · show ((c.ls.set 0 first).set 1 gone)[1]? = _; rw [e, ht]; rfl
  · have hx : ((c.ls.set 0 first).set 1 gone)[i]? = some x := hx
    rw [e] at hx
    refine .inl ?_
    match i, hi with
    | 0, _ => exact ⟨1, by decide, by rw [ht]; exact hx⟩
    | 1, _ => exact ⟨0, by decide, by rw [ht]; exact hx⟩
theorem Vs.ne (v : Vs n K0 Mo d0 d gone kept rest) {c : Cl} {i i' a b : Nat} (hk : d.cls[k]? = some c) (hi : i ≠ i') (h : c.ls[i]? = some a) (h' : c.ls[i']? = some b) : a ≠ b := nd_ne (v.I.C.nd k c hk) hi h h'
theorem Vs.move (v : Vs n K0 Mo d0 d gone kept ((k, y) :: rest)) {c : Cl} {first j q : Nat} (hk : d.cls[k]? = some c) (h0 : c.ls[0]? = some first) (h1 : c.ls[1]? = some gone) (hj : 2 ≤ j) (hq : c.ls[j]? = some q) (hw : 0 ≤ wv d.wo q) : Vs n K0 Mo d0 { Sd.moved d k c j q gone with F := fun r => if r = q then d.F q ++ [(k, first)] else if r = gone then kept ++ rest else d.F r } gone kept rest := by
  obtain ⟨t, ht⟩ := two_of h0 h1
  obtain ⟨i, rfl⟩ : ∃ i, j = i + 2 := ⟨j - 2, by omega⟩
  have hq2 : t[i]? = some q := by rw [ht] at hq; simpa using hq
  have e : (c.ls.set 1 q).set (i + 2) gone = first :: q :: t.set i gone := by rw [ht]; rfl
  have hp : ((c.ls.set 1 q).set (i + 2) gone).Perm c.ls := by rw [e, ht]; exact (perm_set t i hq2).cons _
  have cp := CP.set (c' := { c with fr := ((i + 2 : Nat) : Int), ls := (c.ls.set 1 q).set (i + 2) gone }) hk hp rfl
  have L := v.I.L
  have hjl := (List.getElem?_eq_some_iff.1 hq).1
  have hqn := (v.I.C.lt k c hk q (List.mem_of_getElem? hq)).1
  have nqg : q ≠ gone := v.ne hk (by omega) hq h1
  have wt := v.I.W.move (c' := { c with fr := ((i + 2 : Nat) : Int), ls := (c.ls.set 1 q).set (i + 2) gone }) v.g hqn v.F hk hp (v.I.C.nd k c hk) h0 h1 (by show ((c.ls.set 1 q).set (i + 2) gone)[0]? = _; rw [e]; rfl) (by show ((c.ls.set 1 q).set (i + 2) gone)[1]? = _; rw [e]; rfl) hj hq
  have pr := v.P.reset v.I.T v.I.C (c' := { c with fr := ((i + 2 : Nat) : Int), ls := (c.ls.set 1 q).set (i + 2) gone }) hk hp fun i' x hi hx => by
    have hx : ((c.ls.set 1 q).set (i + 2) gone)[i']? = some x := hx
    rw [e] at hx
    match i', hi with
    | 0, _ => exact .inl ⟨0, by decide, by rw [ht]; exact hx⟩
    | 1, _ =>
      have : q = x := by simpa using hx
      subst this; exact .inr hw
  have hkl := (List.getElem?_eq_some_iff.1 hk).1
  refine ⟨⟨⟨L.nb, L.wo, L.dp, L.wy, L.lk, L.sc, L.se, L.co, L.tr, L.ma, L.nu⟩, ⟨v.I.T.w, v.I.T.tl, v.I.T.nd, v.I.T.one, v.I.T.k0, v.I.T.ma, v.I.T.mb, v.I.T.dp, v.I.T.nx, v.I.T.mx⟩, v.I.C.set hk hp ⟨i + 2, rfl, hj, by show _ ≤ ((c.ls.set 1 q).set (i + 2) gone).length; rw [hp.length_eq]; omega⟩, wt, v.I.Y.perm cp, v.I.S.perm cp, by show (d.cls.set _ _).length < _; rw [List.length_set]; exact v.I.hb⟩, ?_, ?_, v.V.trans ⟨cp, ⟨[], by simp [Sd.moved]⟩, fun _ h _ => h, _, _, _, _, _, _, _, _, _, rfl⟩, v.g, v.gw, v.gd⟩
  · have pr2 : Pr { Sd.moved d k c (i + 2) q gone with F := fun r => if r = q then d.F q ++ [(k, first)] else if r = gone then kept ++ rest else d.F r } (fun k' x => x = gone ∧ k' ∈ ((k, y) :: rest).map (·.1)) := pr
    refine pr2.less fun k' x he => ?_
    obtain ⟨rfl, hm⟩ := he
    rcases List.mem_cons.1 hm with e' | hm
    · have e' : k' = k := e'
      subst e'
      refine .inr fun c' i' hc' hi' hx' => ?_
      exfalso
      have hc' : (d.cls.set k' { c with fr := ((i + 2 : Nat) : Int), ls := (c.ls.set 1 q).set (i + 2) x })[k']? = some c' := hc'
      rw [List.getElem?_set_self hkl] at hc'
      injection hc' with hc'; subst hc'
      have hx' : ((c.ls.set 1 q).set (i + 2) x)[i']? = some x := hx'
      rw [e] at hx'
      match i', hi' with
      | 0, _ =>
        have : first = x := by simpa using hx'
        exact v.ne hk (by decide) h0 h1 this
      | 1, _ =>
        have : q = x := by simpa using hx'
        exact nqg this
    · exact .inl ⟨rfl, hm⟩
  · show (if gone = q then _ else if gone = gone then _ else _) = _
    rw [if_neg (fun e => nqg e.symm), if_pos rfl]
theorem Vs.rename (v : Vs n K0 Mo d0 d gone kept ((k, y) :: rest)) {c : Cl} {z : Nat} (hk : d.cls[k]? = some c) (hz : z ∈ c.ls) (hzg : z ≠ gone) : Vs n K0 Mo d0 (d.mem gone (kept ++ (k, z) :: rest)) gone kept ((k, z) :: rest) := by
  have L := v.I.L
  refine ⟨⟨⟨L.nb, L.wo, L.dp, L.wy, L.lk, L.sc, L.se, L.co, L.tr, L.ma, L.nu⟩, ⟨v.I.T.w, v.I.T.tl, v.I.T.nd, v.I.T.one, v.I.T.k0, v.I.T.ma, v.I.T.mb, v.I.T.dp, v.I.T.nx, v.I.T.mx⟩, v.I.C, v.I.W.rename v.g v.F hk hz hzg, v.I.Y, v.I.S, v.I.hb⟩, v.P, ?_, v.V.trans ⟨CP.refl _, ⟨[], by simp [Sd.mem]⟩, fun _ h _ => h, _, _, _, _, _, _, _, _, _, rfl⟩, v.g, v.gw, v.gd⟩
  show (if gone = gone then _ else _) = _
  rw [if_pos rfl]
theorem Len.held (L : Len n d) (t : Tl n K0 d) {q : Nat} (hq : q < 2 * n) (h0 : wv d.wo q = 0) (k : Int) : Len n (d.held q k) :=
  ⟨L.nb, by show ((d.wo.set _ _).set _ _).length = _; rw [List.length_set, List.length_set]; exact L.wo, by show (d.dp.set _ _).length = _; rw [List.length_set]; exact L.dp, by show (d.wy.set _ _).length = _; rw [List.length_set]; exact L.wy, L.lk, L.sc, L.se, L.co, by show (d.tr ++ [q]).length ≤ n; rw [List.length_append]; exact t.lt hq h0, L.ma, L.nu⟩
/-- All others of a claim are gone: the last one holds. -/
theorem Iv.hold (v : Iv n K0 Mo d) {c : Cl} {q : Nat} (hk : d.cls[k]? = some c) (hc : q ∈ c.ls) (h0 : wv d.wo q = 0) (ho : ∀ y ∈ c.ls, y ≠ q → wv d.wo y = -1) : Iv n K0 Mo (d.held q (k : Int)) := by
  obtain ⟨hq, k1, k2⟩ := v.C.lt k c hk q hc
  have hoth : ∀ y ∈ c.ls, y ≠ q → oth y ∈ d.tr := fun y hy hne => by
    obtain ⟨hyn, a1, a2⟩ := v.C.lt k c hk y hy
    have e := v.T.w.opp y hyn
    rw [ho y hy hne] at e
    rcases (v.T.one (oth y) (oth_lt hyn)).1 (by omega) with h | h
    · exact h
    · exact absurd h a2
  exact ⟨v.L.held v.T hq h0 _, v.T.held v.L.dp hq h0 ⟨k1, k2⟩ _, v.C, v.W, v.Y.held v.T v.L.wy hq h0 hk hc hoth, v.S.held v.T hk hc hoth, v.hb⟩
theorem Vs.hold (v : Vs n K0 Mo d0 d gone kept ((k, y) :: rest)) {c : Cl} (hk : d.cls[k]? = some c) (h0 : wv d.wo y = 0) (ho : ∀ x ∈ c.ls, x ≠ y → wv d.wo x = -1) : Vs n K0 Mo d0 (d.held y (k : Int)) gone (kept ++ [(k, y)]) rest := by
  obtain ⟨c', hc', h1, h2, h3⟩ := v.entry
  rw [hk] at hc'; injection hc' with hc'; subst hc'
  have hy := (v.I.C.lt k c hk y h2).1
  have hne : gone / 2 ≠ y / 2 := fun e => by
    rcases half_eq (q := y) (r := gone) e.symm with e | e
    · exact h3 e.symm
    · have := v.gw
      rw [e, v.I.T.w.opp y hy, h0] at this; cases this
  have v2 : Vs n K0 Mo d0 (d.held y (k : Int)) gone kept ((k, y) :: rest) := by
    refine ⟨v.I.hold hk h2 h0 ho, v.P.held v.I.T hy h0 _, v.F, v.V.trans ⟨CP.refl _, ⟨[y], rfl⟩, fun N h hm v hv => (List.mem_or_eq_of_mem_set (show v ∈ d.dp.set (y / 2) d.ma.length from hv)).elim (fun h1 => h v h1) (fun e => by rw [e]; exact hm), _, _, _, _, _, _, _, _, _, rfl⟩, v.g, ?_, ?_⟩
    · show wv ((d.wo.set y 1).set (oth y) (-1)) gone = -1
      rw [wv_held v.I.T.w hy, if_neg (fun e => hne (by rw [e, oth_half])), if_neg (fun e => hne (by rw [e]))]
      exact v.gw
    · rw [dpt_held v.I.T hy h0 hne]; exact v.gd
  refine v2.keep ?_
  show wv ((d.wo.set y 1).set (oth y) (-1)) y = 1
  rw [wv_held v.I.T.w hy, if_neg (fun e => oth_ne y e.symm), if_pos rfl]
theorem Vs.done (v : Vs n K0 Mo d0 d gone kept []) : Pr d (fun _ _ => False) := v.P.less fun k x he => by simp at he
/-- The next place of the trail is gone through. -/
theorem Vs.start (v : Iv n K0 Mo d) (p : Pr d (fun _ _ => False)) {q : Nat} (hq : d.tr[d.nx]? = some q) : Vs n K0 Mo d { d with nx := d.nx + 1 } (oth q) [] (d.F (oth q)) := by
  have L := v.L
  have hql := v.T.tl q (List.mem_of_getElem? hq)
  have hl := (List.getElem?_eq_some_iff.1 hq).1
  have hw := (v.T.one q hql).2 (.inl (List.mem_of_getElem? hq))
  refine ⟨⟨⟨L.nb, L.wo, L.dp, L.wy, L.lk, L.sc, L.se, L.co, L.tr, L.ma, L.nu⟩, ⟨v.T.w, v.T.tl, v.T.nd, v.T.one, v.T.k0, v.T.ma, v.T.mb, v.T.dp, hl, fun m hm => Nat.le_trans (v.T.mx m hm) (Nat.le_succ _)⟩, v.C, v.W, v.Y, v.S, v.hb⟩, ?_, rfl, ⟨CP.refl _, ⟨[], by simp⟩, fun _ h _ => h, _, _, _, _, _, _, _, _, _, rfl⟩, oth_lt hql, ?_, ?_⟩
  · intro k c i x hk hi hx hj
    obtain ⟨j, hj1, hj2⟩ := hj
    have hj1 : j < d.nx + 1 := hj1
    have hj2 : d.tr[j]? = some (oth x) := hj2
    by_cases e : j < d.nx
    · rcases p k c i x hk hi hx ⟨j, e, hj2⟩ with h | h
      · exact absurd h id
      · exact .inr h
    · obtain rfl : j = d.nx := by omega
      rw [hq] at hj2
      injection hj2 with hj2
      have ex : x = oth q := by rw [hj2, oth_oth]
      obtain ⟨y, hy⟩ := v.W.wb k c i x hk hi hx
      exact .inl ⟨ex, by rw [← ex]; exact List.mem_map.2 ⟨(k, y), hy, rfl⟩⟩
  · show wv d.wo (oth q) = -1
    rw [v.T.w.opp q hql, hw]
  · show dpt d.dp (oth q) = d.ma.length
    unfold dpt
    rw [oth_half]
    have := v.T.dp d.nx q hq
    rw [lev_all fun m hm => v.T.mx m hm] at this
    exact dpt_of this
end
end Go.Proofs.YtpmdnbdmocdngaaGreat
