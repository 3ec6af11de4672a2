/-
  stepsOf of package check, walked.
-/
import Derived.Test.YthjbjbbbbdhcmaaCheckL
namespace Go.Proofs.Ythjbjbbbbdhcmaa
open Go.ChangeShapes Go.WideShapes Go.ChangeAt Go.RowKit Go.Joins
set_option linter.unusedVariables false

set_option maxRecDepth 100000 in
set_option maxHeartbeats 4000000 in
theorem steps_any {W : World} {A : Option Addr} {L : List (Int × Int)} {ca : Nat} (hl : L.length ≤ 96) (la : L.length ≤ ca) (ma : ca ≤ 9223372036854775807) (hi : InstAt W A L) (ok : ∀ (i : Nat) (x : Int × Int), L[i]? = some x → okI x = true) :
    Calls Try.prog 23 #[.slice A L.length ca] W fun e W' => ∃ g, e = .returned (.slice (some ⟨g, 0, none⟩) L.length L.length) ∧ StepsAt W' g L.length L.length L ∧ W.heap.size ≤ g ∧ Gw W W' := by
  have HI0 := Lib.hid hi
  have HOK := Lib.hid ok
  clear hi ok
  have hmk := make_steps L.length (by omega)
  have hn : ∀ b w, (Op.unary .not (.bool b)).run Try.prog w = .ok (.bool (!b)) w := fun _ _ => rfl
  have S0 : StepsAt (W.alloc (.cells (madeCells #[.int .i64 0, .int .i64 0, .slice none 0 0] (L.length * 3)) 66)) W.heap.size L.length 0 L :=
    ⟨⟨_, Has.new W _ _, size_madeCells _ _⟩, fun i x h => by omega⟩
  have HS0 := Lib.hid S0
  clear S0
  go_enter Try.func23, Try.ntmps23
  go_upto_region 2 with fail
  clear hmk
  go_wp2
  go_loopw [12] (fun i wr => ∃ k : Nat, k ≤ L.length ∧ i = .int .i64 k ∧ Hid (StepsAt wr W.heap.size L.length k L) ∧ Hid (Gw W wr)) (fun i _ => L.length - (intOf i).toNat)
  case atStart => exact ⟨0, by omega, rfl, HS0.out, Gw.alloc W _⟩
  case round =>
    obtain ⟨k, hk, rfl, S, G⟩ := hrel
    clear HS0
    by_cases hlt : k < L.length
    · obtain ⟨x, hx⟩ : ∃ x, L[k]? = some x := ⟨_, List.getElem?_eq_getElem hlt⟩
      obtain ⟨p1, p2, p3, p4⟩ := okI_bd (HOK.out k x hx)
      have TK := fun w => takes_x (HOK.out k x hx) w
      have GV := fun w => gives_x (HOK.out k x hx) w
      obtain ⟨gA, off, rfl, hgA, hc0, hc1⟩ := (HI0.out.keep (fun j hj => G.out.block j hj) G.out.size) k x hx
      have HX := Lib.hid hx
      clear hx
      generalize htk : tkx x = tk at *
      generalize hgv : gvx x = gv at *
      have HTK := Lib.hid htk
      have HGV := Lib.hid hgv
      clear htk hgv
      obtain ⟨op, a⟩ := x
      simp only at TK GV hc0 hc1 p1 p2 p3 p4
      go_upto_region 5 with fail
      obtain ⟨wi, hwi⟩ : ∃ wi, wi = wr.alloc (.cells #[.int .i64 op, .int .i64 a] 38) := ⟨_, rfl⟩
      have HI1 : Hid (Has wi wr.heap.size 38 #[.int .i64 op, .int .i64 a]) := by rw [hwi]; exact Has.new _ _ _
      have GI : Hid (Gw wr wi) := by rw [hwi]; exact Gw.alloc _ _
      have hsi : Hid (wi.heap.size = wr.heap.size + 1) := by rw [hwi]; exact size_alloc _ _
      rw [← hwi]
      clear hwi
      generalize hib : wr.heap.size = ib at *
      have HIB := Lib.hid hib
      clear hib hc0 hc1
      go_cut [6] (fun s6 wx => ∃ sb, s6 = .pointer (some ⟨sb, 0, none⟩) ∧ Hid (Has wx sb 66 #[.int .i64 tk, .int .i64 gv, .slice none 0 0]) ∧ Hid (wi.heap.size ≤ sb) ∧ Hid (Gw wi wx))
      case first =>
        have e0 : wi.cell? ⟨ib, 0, none⟩ = some (.int .i64 op) := HI1.out.cell 0
        have e0d : wi.drew.cell? ⟨ib, 0, none⟩ = some (.int .i64 op) := e0
        have e0a : (wi.alloc (.cells #[.int .i64 0, .int .i64 0, .slice none 0 0] 66)).drew.cell? ⟨ib, 0, none⟩ = some (.int .i64 op) := ((Gw.alloc wi _).drew).cell e0
        go_region_law (first | (rw [if_pos (by rfl)]; go_simp; go_at_call 31; with_reducible refine (TK _).mono ?_; rintro e w8 ⟨rfl, G8⟩; (first | (have c8 := G8.cell e0d) | (have c8 := G8.cell e0a)); have c8a := (Gw.alloc w8 (.cells #[.int .i64 0, .int .i64 0, .slice none 0 0] 66)).cell c8; try (have hb8 : Has w8 wi.heap.size 66 #[.int .i64 0, .int .i64 0, .slice none 0 0] := (Has.new wi _ _).on ((Gw.refl _).drew.trans G8))) | (rw [if_pos (by rfl)]; go_simp; go_at_call 32; with_reducible refine (GV _).mono ?_; rintro e w9 ⟨rfl, G9⟩; (first | (have c9 := G9.cell c8) | (have c9 := G9.cell c8a)); have c9a := (Gw.alloc w9 (.cells #[.int .i64 0, .int .i64 0, .slice none 0 0] 66)).cell c9; (try (have hb9 : Has w9 w8.heap.size 66 #[.int .i64 0, .int .i64 0, .slice none 0 0] := (Has.new w8 _ _).on G9; have z0 := (box3 hb9).1; have z1 := (box3 hb9).2.1; have z2 := (box3 hb9).2.2.1; have y0 := (box3 hb9).2.2.2.1; have y1 := (box3 hb9).2.2.2.2.1; have y2 := (box3 hb9).2.2.2.2.2)); (try (have hb9 : Has w9 wi.heap.size 66 #[.int .i64 0, .int .i64 0, .slice none 0 0] := hb8.on G9; have z0 := (box3 hb9).1; have z1 := (box3 hb9).2.1; have z2 := (box3 hb9).2.2.1; have y0 := (box3 hb9).2.2.2.1; have y1 := (box3 hb9).2.2.2.2.1; have y2 := (box3 hb9).2.2.2.2.2))))
        all_goals (
          go_wp2_with fail
          go_meet
          first
            | exact ⟨_, rfl, Has.new w9 _ _, (((Gw.refl wi).drew.trans G8).trans G9).size, (((Gw.refl wi).drew.trans G8).trans G9).trans (Gw.alloc _ _)⟩
            | exact ⟨_, rfl, (put3 hb9 (((Gw.refl wi).drew.trans G8).trans ((Gw.alloc w8 _).trans G9)) ((Gw.refl wi).drew.trans G8).size).1, ((Gw.refl wi).drew.trans G8).size, (put3 hb9 (((Gw.refl wi).drew.trans G8).trans ((Gw.alloc w8 _).trans G9)) ((Gw.refl wi).drew.trans G8).size).2⟩
            | exact ⟨_, rfl, (put3 hb9 (((Gw.alloc wi _).drew.trans G8).trans G9) (Nat.le_refl _)).1, Nat.le_refl _, (put3 hb9 (((Gw.alloc wi _).drew.trans G8).trans G9) (Nat.le_refl _)).2⟩)
      case rest =>
        obtain ⟨sb, rfl, HS, HB, GX⟩ := hcut
        have HI2 := Lib.hid (HI1.out.on GX.out)
        have e0 : wc.cell? ⟨ib, 0, none⟩ = some (.int .i64 op) := HI2.out.cell 0
        have CS := Lib.hid (CutS.mk (w0 := wi) (B := wc.heap.size) (l := []) GX.out HS.out (Nat.le_refl _) HS.out.lt HB.out (World.ownsRow_nil _ _ _ _))
        generalize hB : wc.heap.size = B at *
        have HBB := Lib.hid hB
        clear hB TK GV HS HB GX
        have FJ := fun w => jumps_any op w
        have FE := fun w => ends_any op w
        obtain ⟨i0, hi1, hi2, hi3, hi4⟩ := info_int
        have HII := Lib.hid (show _ ∧ _ ∧ _ ∧ _ from ⟨hi1, hi2, hi3, hi4⟩)
        clear hi1 hi2 hi3 hi4
        go_upto_if 26 with (go_at_call 33; with_reducible refine (FJ _).mono ?_; rintro e w' ⟨rfl, rfl⟩)
        obtain ⟨wj, hwj⟩ : ∃ x, x = w' := ⟨_, rfl⟩
        subst hwj
        go_cut [] (fun wx => ∃ v l, Hid (CutS wi wx sb B tk gv v l) ∧ Hid (l = if jumpsB op = true then [a] else []))
        case first =>
          cases hj : jumpsB op with
          | true =>
            have CX := CS
            have e1 : wj.cell? ⟨ib, 1, none⟩ = some (.int .i64 a) := HI2.out.cell 1
            have e1a := (Gw.alloc wj (.cells #[.int .i64 a] 3)).cell e1
            have e2 := (box3 CX.out.s).2.2.1
            have HJ := Lib.hid hj
            clear hj
            go_wp2_with (at_builtin; refine wpList_append_lies _ rfl _ _ _ rfl B 3 i0 _ 1 8 Try.underlying31 HII.out.1 HII.out.2.1 HII.out.2.2.1 HII.out.2.2.2 rfl (by omega) (.slice none 0 0) 0 (i64s []) rfl ((CX.out.own_on (Gw.alloc _ _))) ⟨_, 0, none⟩ 1 1 [.int .i64 a] rfl rfl (World.news_of_block (cs := #[.int .i64 a]) (t := 3) (fr := (0, 0)) (heap_alloc_new _ _)) (by simp [Value.oneCell']) (by omega) (by unfold maxLen; omega) (by omega) (by have := CX.out.le; simp; omega) _ rfl ?_; intro g1 c1 wp hown1 hg1 hat1 hlt1; have HSP := CX.out.keep (Gw.alloc _ _) hg1; have z2 := (box3 HSP).2.2.1; have y2 := (box3 HSP).2.2.2.2.2)
            go_meet
            exact ⟨_, _, CX.out.more (Gw.alloc _ _) hown1 hg1, (if_pos HJ.out).symm⟩
          | false =>
            have HJ := Lib.hid hj
            clear hj
            go_wp2
            go_meet
            exact ⟨_, _, CS.out, (if_neg (by rw [HJ.out]; decide)).symm⟩
        case rest =>
          obtain ⟨v, l, CX, HLJ⟩ := hcut
          have e0' : wc.cell? ⟨ib, 0, none⟩ = some (.int .i64 op) := (HI1.out.on CX.out.gw).cell 0
          have hl1 : l.length ≤ 1 := by rw [HLJ.out]; split <;> simp
          obtain ⟨AX, capX, rfl⟩ := CX.out.shape
          clear CS e0 HI2
          cases he : endsB op with
          | true =>
            rw [he] at FE
            have HEB := Lib.hid he
            clear he
            go_upto_region 10 with (go_at_call 34; with_reducible refine (FE _).mono ?_; rintro e w' ⟨rfl, rfl⟩)
            have CY := CX
            obtain ⟨ra, rb, rc, ⟨r0, r1, r2⟩, f0, f1, f2⟩ := (S.out.on (GI.out.trans CY.out.gw)).room hlt
            obtain ⟨q0, q1, q2, _⟩ := box3 CY.out.s
            have hkn : (k : Int) < L.length := by omega
            go_wp2
            go_roundw
            case rel =>
              have D := CutS.done (L := L) (x := (op, a)) (k := k) (n := L.length) (by rw [HTK.out, HGV.out]; exact CY.out) S.out GI.out G.out HX.out hlt (by rw [HLJ.out]; show _ = (if jumpsB op = true then [a] else []) ++ (if endsB op = true then [] else [(k : Int) + 1]); rw [HEB.out]; simp)
              rw [HTK.out, HGV.out] at D
              exact ⟨k + 1, by omega, by go_num, D.1, D.2⟩
            case measure => simp [intOf]; omega
          | false =>
            rw [he] at FE
            have HEB := Lib.hid he
            clear he
            have z2 := (box3 CX.out.s).2.2.1
            have z3 := (box3 (CX.out.s.on (Gw.alloc wc (.cells #[.int .i64 ((k : Int) + 1)] 3)))).2.2.1
            go_upto_region 10 with (first | (go_at_call 34; with_reducible refine (FE _).mono ?_; rintro e w' ⟨rfl, rfl⟩) | (at_builtin; refine wpList_append_lies _ rfl _ _ _ rfl B 3 i0 _ 1 8 Try.underlying31 HII.out.1 HII.out.2.1 HII.out.2.2.1 HII.out.2.2.2 rfl (by omega) (.slice AX l.length capX) l.length (i64s l) rfl ((CX.out.own_on (Gw.alloc _ _))) ⟨_, 0, none⟩ 1 1 [.int .i64 ((k : Int) + 1)] rfl rfl (World.news_of_block (cs := #[.int .i64 ((k : Int) + 1)]) (t := 3) (fr := (0, 0)) (heap_alloc_new _ _)) (by simp [Value.oneCell']) (by omega) (by unfold maxLen; omega) (by omega) (by have := CX.out.le; simp; omega) _ rfl ?_; intro g1 c1 wp hown1 hg1 hat1 hlt1; have HSP := CX.out.keep (Gw.alloc _ _) hg1; have z2 := (box3 HSP).2.2.1; have y2 := (box3 HSP).2.2.2.2.2))
            have CY := Lib.hid (CX.out.more (Gw.alloc _ _) hown1 hg1)
            clear hown1 hg1 hat1 hlt1 HSP z2 y2 z3
            obtain ⟨ra, rb, rc, ⟨r0, r1, r2⟩, f0, f1, f2⟩ := (S.out.on (GI.out.trans CY.out.gw)).room hlt
            obtain ⟨q0, q1, q2, _⟩ := box3 CY.out.s
            have hkn : (k : Int) < L.length := by omega
            go_wp2
            go_roundw
            case rel =>
              have D := CutS.done (L := L) (x := (op, a)) (k := k) (n := L.length) (by rw [HTK.out, HGV.out]; exact CY.out) S.out GI.out G.out HX.out hlt (by rw [HLJ.out]; show _ = (if jumpsB op = true then [a] else []) ++ (if endsB op = true then [] else [(k : Int) + 1]); rw [HEB.out]; simp)
              rw [HTK.out, HGV.out] at D
              exact ⟨k + 1, by omega, by go_num, D.1, D.2⟩
            case measure => simp [intOf]; omega
    · obtain rfl : k = L.length := by omega
      go_wp2
      go_ret
      exact ⟨_, rfl, S.out, Nat.le_refl _, G.out⟩
end Go.Proofs.Ythjbjbbbbdhcmaa
