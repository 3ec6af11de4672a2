/-
  The law CheckHolds over what Run and Heights are to answer.
-/
import Derived.Test.YthjbjbbbbdhcmaaCheckY
import Derived.Test.YthjbjbbbbdhcmaaProgC
namespace Go.Proofs.Ythjbjbbbbdhcmaa
open Go.ChangeShapes Go.WideShapes Go.ChangeAt Go.RowKit Go.Joins
set_option linter.unusedVariables false

theorem tk_gv' {o : Nat} (ho : o < 42) : 0 ≤ tk o ∧ tk o ≤ 3 ∧ 0 ≤ gv o ∧ gv o ≤ 2 := by
  have all : ∀ j : Fin 42, 0 ≤ tk j.val ∧ tk j.val ≤ 3 ∧ 0 ≤ gv j.val ∧ gv j.val ≤ 2 := by decide +kernel
  exact all ⟨o, ho⟩
set_option maxRecDepth 100000 in
set_option maxHeartbeats 8000000 in
theorem holds_walk (r : RunC) (h : HtsC) (aw : AwC) {w : World} {A B : Option Addr} {L : List (Int × Int)} {N : List ByteArray} {ca cb : Nat} (h0 : POk w A L ca B N cb) :
    Calls Try.prog 5 #[.agg #[.slice A L.length ca, .slice B N.length cb]] w fun e w' => e = .returned (.bool true) ∧ Gw w w' := by
  obtain ⟨W1, hW1⟩ : ∃ W1, W1 = w.alloc (.cells #[.slice A L.length ca, .slice B N.length cb] 25) := ⟨_, rfl⟩
  have GB := Gw.alloc w (.cells #[.slice A L.length ca, .slice B N.length cb] 25)
  obtain ⟨c0, c1, _, _⟩ := two_cells (heap_alloc_new w (.cells #[.slice A L.length ca, .slice B N.length cb] 25))
  rw [← hW1] at GB c0 c1
  have p0 := h0.gw GB
  have AW := aw W1
  clear h0
  have S0 : ∀ {W : World}, POk W A L ca B N cb → Calls Try.prog 9 #[.agg #[.slice A L.length ca, .slice B N.length cb]] W fun e W' => e = .returned (.bool (smallB L N)) ∧ Grown W W' := fun h => small_any h
  have hn : ∀ b w, (Op.unary .not (.bool b)).run Try.prog w = .ok (.bool (!b)) w := fun _ _ => rfl
  have RR := fun {W : World} (h : POk W A L ca B N cb) => r h
  have HH := fun {W : World} (g : POk W A L ca B N cb) => h g
  cases hb0 : smallB L N with
  | false =>
    rw [hb0] at S0
    go_enter Try.func5, Try.ntmps5
    go_upto_region 1 with fail
    rw [← hW1]
    clear hW1
    go_wp2_with (first | (go_at_call 8; with_reducible refine AW.mono ?_; rintro e w1 ⟨rfl, G1⟩; have e0 := G1.cell c0; have e1 := G1.cell c1; have P0 := Lib.hid (p0.gw G1); have GW := GB.trans G1) | (go_at_call 9; with_reducible refine (S0 P0.out).mono ?_; rintro e w2 ⟨rfl, G2⟩; have G2 := Grown.gw G2; have e0 := G2.cell e0; have e1 := G2.cell e1; have P0 := Lib.hid (P0.out.gw G2); have GW := GW.trans G2))
    go_ret
    exact ⟨rfl, GW⟩
  | true =>
    rw [hb0] at S0
    clear hb0
    go_enter Try.func5, Try.ntmps5
    go_upto_region 1 with fail
    rw [← hW1]
    clear hW1
    go_upto_region 6 with (first | (go_at_call 8; with_reducible refine AW.mono ?_; rintro e w1 ⟨rfl, G1⟩; have e0 := G1.cell c0; have e1 := G1.cell c1; have P0 := Lib.hid (p0.gw G1); have GW := GB.trans G1) | (go_at_call 9; with_reducible refine (S0 P0.out).mono ?_; rintro e w2 ⟨rfl, G2⟩; have G2 := Grown.gw G2; have e0 := G2.cell e0; have e1 := G2.cell e1; have P0 := Lib.hid (P0.out.gw G2); have GW := GW.trans G2) | (go_at_call 10; with_reducible refine (RR P0.out).mono ?_; rintro e w3 ⟨k, f, hs, rfl, I1, G2⟩; have I1 := Lib.hid I1; have e0 := G2.cell e0; have e1 := G2.cell e1; have P0 := Lib.hid (P0.out.gw G2); have GW := GW.trans G2))
    by_cases hf0 : f = 0
    · subst hf0
      obtain ⟨_, s1, s2, s3, hb, H⟩ := I1.out.ok rfl
      have HST := Lib.hid (show _ ∧ _ ∧ _ ∧ _ ∧ _ from ⟨s1, s2, s3, hb, H⟩)
      have hl1 := s1.l1
      have hl2 := s1.l2
      clear s1 s2 s3 hb H
      go_upto_region 9 with (go_at_call 13; with_reducible refine (HH P0.out).mono ?_; rintro e w5 ⟨k3, f3, v3, hs3, rfl, I3, R3⟩; obtain ⟨rfl, rfl, rfl⟩ := Is.det I1.out I3; obtain ⟨A3, c3, rfl, NB⟩ := R3.nums; have NB := Lib.hid NB; have P0 := Lib.hid (P0.out.gw R3.gw); have e0 := R3.gw.cell e0; have e1 := R3.gw.cell e1; have GW := GW.trans R3.gw)
      have hlen : hs.length = L.length := HST.out.2.2.2.2.1
      rw [hlen]
      have h00 := HST.out.2.2.2.2.first HST.out.2.2.2.1 hl1
      obtain ⟨g3, o3, rfl, c00⟩ := NB.out 0 0 h00
      have hb1 : ((L.length : Int) != (L.length : Int)) = false := by simp
      simp only [Nat.add_zero] at c00
      clear h00
      go_wp2
      obtain ⟨wo, hwo⟩ : ∃ x, x = w5 := ⟨_, rfl⟩
      subst hwo
      have GO := Lib.hid GW
      clear c00
      go_loopw [6] (fun i wr => ∃ k : Nat, k ≤ L.length ∧ i = .int .i64 k ∧ Hid (Gw wo wr)) (fun i _ => L.length - (intOf i).toNat)
      case atStart => exact ⟨0, by omega, rfl, Gw.refl _⟩
      case round =>
        obtain ⟨k, hk, rfl, G⟩ := hrel
        have d0 := G.out.cell e0
        by_cases hlt : k < L.length
        · obtain ⟨⟨op, a⟩, hx⟩ : ∃ x, L[k]? = some x := ⟨_, List.getElem?_eq_getElem hlt⟩
          obtain ⟨c, hc⟩ : ∃ c, hs[k]? = some c := ⟨_, List.getElem?_eq_getElem (by rw [hlen]; exact hlt)⟩
          obtain ⟨g', o', e', cc⟩ := (NB.out.gw G.out) k c hc
          injection e' with e'
          injection e' with ea eb
          subst ea
          subst eb
          by_cases hc0 : c < 0
          · have f1 : decide (c < 0) = true := decide_eq_true hc0
            have G2 := G
            clear hx hc hc0
            go_wp2
            go_roundw
            case rel => exact ⟨k + 1, by omega, by go_num, G2.out⟩
            case measure => simp [intOf]; omega
          have f0 : decide (c < 0) = false := decide_eq_false hc0
          obtain ⟨p1, p2, p3, p4⟩ := okI_bd (fault_ok (HST.out.2.2.1 k _ hx)).1
          simp only at p1 p2 p3 p4
          obtain ⟨o, rfl⟩ : ∃ o : Nat, op = o := ⟨op.toNat, by omega⟩
          obtain ⟨A1, rfl⟩ : ∃ A1 : Nat, a = A1 := ⟨a.toNat, by omega⟩
          obtain ⟨q1, q2, _⟩ := HST.out.2.2.2.2.step HST.out.2.2.2.1 hx hc (by omega)
          have HJ := Lib.hid (HST.out.2.2.2.2.jump HST.out.2.2.2.1 HST.out.2.2.1 hx hc (by omega))
          have HX := Lib.hid (HST.out.2.2.2.2.next HST.out.2.2.2.1 HST.out.2.2.1 hx hc (by omega))
          obtain ⟨g, off, rfl, hg, hc0', hc1'⟩ := (P0.out.gw G.out).inst k _ hx
          have HXX := Lib.hid hx
          have F := rrow_yes o (by omega) (by omega)
          obtain ⟨t1, t2, t3, t4⟩ := tk_gv' (o := o) (by omega)
          have et : tkx ((o : Int), (A1 : Int)) = tk o := by simp [tkx]
          have eg : gvx ((o : Int), (A1 : Int)) = gv o := by simp [gvx]
          rw [et, eg] at HJ HX
          rw [et] at q1
          generalize nm o = n1 at *
          generalize hT : tk o = T at *
          generalize hV : gv o = V at *
          generalize ms o = n4 at *
          obtain ⟨D, hD⟩ : ∃ D, c - T + V = D := ⟨_, rfl⟩
          have HD := Lib.hid hD
          have f1 : decide (c < T) = false := decide_eq_false (by omega)
          have f2 : decide (16 < c) = false := decide_eq_false (by omega)
          have w1 : IntKind.i64.wrap (c - T) = c - T := wrap_in (by omega) (by omega)
          have w2 : IntKind.i64.wrap (c - T + V) = D := by rw [← hD]; exact wrap_in (by omega) (by omega)
          clear hx hc hc0 hT hV et eg hD
          go_upto_region 16 with (go_at_call 15; with_reducible refine (F _).mono ?_; rintro e w3' ⟨rfl, G1⟩)
          have G2 := Lib.hid (G.out.trans (Grown.gw G1))
          have d0' := (Grown.gw G1).cell d0
          have cc' := (Grown.gw G1).cell cc
          have i0 := (Grown.gw G1).cell hc0'
          have i1 := (Grown.gw G1).cell hc1'
          have NB2 := Lib.hid (NB.out.gw G2.out)
          clear F G1 d0 cc hc0' hc1'
          go_upto_region 20 with fail
          clear w1 w2 f1 f2 f0 t1 t2 t3 t4
          have nD : (D != D) = false := by simp
          by_cases o22 : o = 22
          · subst o22
            have hjx := HJ.out (.inl rfl)
            obtain ⟨g4, o4, e4, c4⟩ := NB2.out _ _ hjx.2
            injection e4 with e4
            injection e4 with e4a e4b
            subst e4a
            subst e4b
            have hA1 : A1 < L.length := by have := hjx.1; simp at this; omega
            rw [HD.out] at c4
            simp only [Int.toNat_natCast] at c4
            clear hjx
            go_wp2
            go_roundw
            case rel => exact ⟨k + 1, by omega, by go_num, G2.out⟩
            case measure => simp [intOf]; omega
          by_cases o23 : o = 23
          · subst o23
            have hjx := HJ.out (.inr rfl)
            obtain ⟨g4, o4, e4, c4⟩ := NB2.out _ _ hjx.2
            injection e4 with e4
            injection e4 with e4a e4b
            subst e4a
            subst e4b
            have hA1 : A1 < L.length := by have := hjx.1; simp at this; omega
            rw [HD.out] at c4
            simp only [Int.toNat_natCast] at c4
            clear hjx
            have hnx := HX.out (show (23 : Int) ≠ 22 by decide) (show (23 : Int) ≠ 26 by decide)
            obtain ⟨g5, o5, e5, c5⟩ := NB2.out _ _ hnx.2
            injection e5 with e5
            injection e5 with e5a e5b
            subst e5a
            subst e5b
            obtain ⟨k1, hk1⟩ : ∃ k1, k1 = k + 1 := ⟨_, rfl⟩
            have wk : IntKind.i64.wrap ((k : Int) + 1) = (k1 : Int) := by rw [hk1]; exact wrap_in (by omega) (by omega)
            have hk1n : k1 < L.length := by rw [hk1]; exact hnx.1
            rw [← hk1, HD.out] at c5
            have HK1 := Lib.hid hk1
            clear hnx hk1
            go_wp2
            go_roundw
            case rel => exact ⟨k1, by omega, by go_num, G2.out⟩
            case measure => have := HK1.out; simp [intOf]; omega
          by_cases o26 : o = 26
          · subst o26
            go_wp2
            go_roundw
            case rel => exact ⟨k + 1, by omega, by go_num, G2.out⟩
            case measure => simp [intOf]; omega
          have g1 : ((o : Int) == 22) = false := by simp; omega
          have g2 : ((o : Int) == 23) = false := by simp; omega
          have g3 : ((o : Int) != 22) = true := by simp; omega
          have g4 : ((o : Int) != 26) = true := by simp; omega
          have n22 : (o : Int) ≠ 22 := by omega
          have n26 : (o : Int) ≠ 26 := by omega
          have hnx := HX.out n22 n26
          obtain ⟨g5, o5, e5, c5⟩ := NB2.out _ _ hnx.2
          injection e5 with e5
          injection e5 with e5a e5b
          subst e5a
          subst e5b
          obtain ⟨k1, hk1⟩ : ∃ k1, k1 = k + 1 := ⟨_, rfl⟩
          have wk : IntKind.i64.wrap ((k : Int) + 1) = (k1 : Int) := by rw [hk1]; exact wrap_in (by omega) (by omega)
          have hk1n : k1 < L.length := by rw [hk1]; exact hnx.1
          rw [← hk1, HD.out] at c5
          have HK1 := Lib.hid hk1
          clear hnx hk1
          clear n22 n26 o22 o23 o26
          go_wp2
          go_roundw
          case rel => exact ⟨k1, by omega, by go_num, G2.out⟩
          case measure => have := HK1.out; simp [intOf]; omega
        · obtain rfl : k = L.length := by omega
          go_wp2
          go_ret
          exact ⟨rfl, GO.out.trans G.out⟩
    · have f1 : (f != 0) = true := by simp [hf0]
      clear hf0
      go_wp2
      go_ret
      exact ⟨rfl, GW⟩
end Go.Proofs.Ythjbjbbbbdhcmaa
