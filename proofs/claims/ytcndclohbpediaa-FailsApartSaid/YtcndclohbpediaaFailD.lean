/-
  The laws of fails over its contract: one that is asked in turn, and May.
-/
import Derived.Test.YtcndclohbpediaaFailC
import Derived.Test.YtcndclohbpediaaGenRq
import Derived.Deep.RegionLaw
namespace Go.Proofs.Ytcndclohbpediaa
open Go.ChangeShapes Go.WideShapes Go.ChangeAt Go.RowKit Go.Joins
set_option linter.unusedVariables false
set_option linter.unusedSimpArgs false

def mkD (U v : Nat → Value) : Act := { tmps := #[U 0, U 1, U 2, U 3, U 4, U 5, v 28, U 7, U 8, U 9, U 10, U 11, U 12, U 13, U 14, U 15, U 16, U 17, U 18, U 19, U 20, U 21, U 22, U 23, U 24, U 25, U 26, U 27, U 28, U 29, U 30, U 31, U 32, U 33, U 34, U 35, U 36, U 37, U 38, U 39, U 40, U 41, U 42, U 43, U 44, U 45, U 46, U 47, U 48, U 49, U 50, U 51, U 52, U 53, U 54, U 55, U 56, U 57, U 58, U 59, U 60, U 61, U 62, v 0, v 1, v 2, v 3, v 4, v 5, v 6, v 7, v 8, v 9, v 10, v 11, v 12, v 13, v 14, v 15, v 16, v 17, v 18, v 19, v 20, v 21, v 22, v 23, v 24, v 25, v 26, v 27], defers := [] }
theorem countP_step {l : List Bool} {i : Nat} {b : Bool} (h : l[i]? = some b) : (l.take (i + 1)).countP (fun b => b) = (l.take i).countP (fun b => b) + (if b = true then 1 else 0) := by
  rw [List.take_add_one, h, List.countP_append]
  cases b <;> rfl
section
variable {T : FlP} (C : FailC T)
include C
theorem ml_ask {W w : World} {v : Value} {l : List Bool} {i : Nat} {b : Bool} (M : Ml T W w v l (min i l.length)) (hb : l[i]?.getD false = b) : Calls Try.prog 8 #[v] w fun e w' => e = .returned (.bool b) ∧ Ml T W w' v l (min (i + 1) l.length) := by
  have := l_next C M
  rw [getd_min, hb, min_step] at this
  exact this
set_option maxRecDepth 100000 in
set_option maxHeartbeats 4000000 in
theorem lgo_walk {W : World} {x : Value} {l : List Bool} {n : Nat} {k0 k1 : Int} (hx : BlA W x l) (hn8 : n < 256) (hk0 : (Lit.int .i64 k0).wf = true) (hk1 : (Lit.int .i64 k1).wf = true) : Calls Try.prog 3 #[x, .int .u8 (n : Int), .agg #[.int .i64 k0, .int .i64 k1]] W fun e W' => e = .returned (.bool true) ∧ Gw W W' := by
  have hn : ∀ b w, (Op.unary .not (.bool b)).run Try.prog w = .ok (.bool (!b)) w := fun _ _ => rfl
  have HX := Lib.hid hx
  obtain ⟨A, ca, rfl, _, _, hA⟩ := hx
  have HA := Lib.hid hA
  clear hA
  have GB : Hid (Gw W (W.alloc (.cells #[.int .i64 k0, .int .i64 k1] 23))) := Lib.hid (Gw.alloc W _)
  have AW := awake_l C (W.alloc (.cells #[.int .i64 k0, .int .i64 k1] 23))
  by_cases h1 : 200 < l.length
  · have t1 : decide ((200 : Int) < (l.length : Int)) = true := decide_eq_true (by omega)
    go_enter Try.func3, Try.ntmps3
    go_wp2_with (go_at_call 6; (with_reducible refine AW.mono ?_); rintro e w0 ⟨rfl, G0⟩)
    go_ret
    exact ⟨rfl, GB.out.trans G0⟩
  have t1 : decide ((200 : Int) < (l.length : Int)) = false := decide_eq_false (by omega)
  have HL : Hid (l.length ≤ 200) := Lib.hid (by omega)
  clear h1
  go_enter Try.func3, Try.ntmps3
  go_upto_region 8 with (first
    | (go_at_call 6; (with_reducible refine AW.mono ?_); rintro e w0 ⟨rfl, G0⟩; have N0 := l_new C G0 ((HX.out.on GB.out).on G0) (by have := HL.out; omega); clear AW)
    | (go_at_call 7; (with_reducible refine N0.mono ?_); rintro e w1 ⟨a, rfl, M1⟩; clear N0))
  have HM0 := Lib.hid M1
  clear M1 G0 t1
  go_wp2_with fail
  go_loopw [8] (fun xi wr => ∃ i : Nat, xi = .int .i64 (i : Int) ∧ i ≤ n ∧ Hid (Ml T (W.alloc (.cells #[.int .i64 k0, .int .i64 k1] 23)) wr (.pointer (some a)) l (min i l.length))) (fun xi _ => n - (intOf xi).toNat)
  case atStart => exact ⟨0, rfl, Nat.zero_le _, by rw [Nat.zero_min]; exact HM0.out⟩
  case round =>
    obtain ⟨i, rfl, hi, HM⟩ := hrel
    by_cases hlt : i < n
    · have h62 : (i : Int) + 1 ≤ 9223372036854775807 := by omega
      have q1 : (if (l.length : Int) < (i : Int) + 1 then (l.length : Int) else (i : Int) + 1) = ((min (i + 1) l.length : Nat) : Int) := by split <;> omega
      have p1 : ∀ (ts : Array TypeId) (ty : TypeId) (w : World), (Builtin.min_ ts ty #[.int .i64 ((i : Int) + 1), .int .i64 (l.length : Int)]).run Try.prog w = .ok (.int .i64 ((min (i + 1) l.length : Nat) : Int)) w := fun ts ty w => by rw [run_min_int2, q1]
      clear q1
      by_cases hil : i < l.length
      · obtain ⟨b, hb⟩ : ∃ b, l[i]? = some b := ⟨_, List.getElem?_eq_getElem hil⟩
        obtain ⟨g, o, rfl, c⟩ := HA.out i b hb
        have c := (GB.out.trans HM.out.gw).cell c
        have N1 := ml_ask C HM.out (getd_some hb)
        clear hb
        generalize hmi : min (i + 1) l.length = mi at N1 p1
        go_wp2_with (first
          | (go_at_call 8; (with_reducible refine N1.mono ?_); rintro e w2 ⟨rfl, M2⟩; have U1 := l_used C M2; clear N1 M2)
          | (go_at_call 9; (with_reducible refine U1.mono ?_); rintro e w3 ⟨rfl, M3⟩; replace M3 := Lib.hid M3; clear U1))
        go_roundw
        case rel => exact ⟨i + 1, by go_num, by omega, by rw [hmi]; exact M3.out⟩
        case measure => simp [intOf]; omega
      · have N1 := ml_ask C HM.out (getd_none hil)
        generalize hmi : min (i + 1) l.length = mi at N1 p1
        go_wp2_with (first
          | (go_at_call 8; (with_reducible refine N1.mono ?_); rintro e w2 ⟨rfl, M2⟩; have U1 := l_used C M2; clear N1 M2)
          | (go_at_call 9; (with_reducible refine U1.mono ?_); rintro e w3 ⟨rfl, M3⟩; replace M3 := Lib.hid M3; clear U1))
        go_roundw
        case rel => exact ⟨i + 1, by go_num, by omega, by rw [hmi]; exact M3.out⟩
        case measure => simp [intOf]; omega
    · obtain rfl : n = i := by omega
      clear hlt
      go_wp2_with fail
      go_loopw [10, 11] (fun xm xi wr => ∃ m i : Nat, xm = .int .i64 (m : Int) ∧ xi = .int .i64 (i : Int) ∧ i ≤ l.length ∧ Hid (m = (l.take i).countP (fun b => b)) ∧ Hid (m ≤ i) ∧ Hid (Ml T (W.alloc (.cells #[.int .i64 k0, .int .i64 k1] 23)) wr (.pointer (some a)) l (min n l.length))) (fun _ xi _ => l.length - (intOf xi).toNat)
      case atStart => exact ⟨0, 0, rfl, rfl, Nat.zero_le _, Lib.hid rfl, Lib.hid (Nat.le_refl _), HM⟩
      case round =>
        obtain ⟨m, i, rfl, rfl, hi2, hm, hmi, HM2⟩ := hrel
        by_cases hlt : i < l.length
        · have h62 : (i : Int) + 1 ≤ 9223372036854775807 := by have := HL.out; omega
          have h62m : (m : Int) + 1 ≤ 9223372036854775807 := by have := HL.out; have := hmi.out; omega
          obtain ⟨b, hb⟩ : ∃ b, l[i]? = some b := ⟨_, List.getElem?_eq_getElem hlt⟩
          obtain ⟨g, o, rfl, c⟩ := HA.out i b hb
          have c := (GB.out.trans HM2.out.gw).cell c
          have hc := Lib.hid (countP_step hb)
          clear hb
          cases b with
          | true =>
            go_wp2_with fail
            go_roundw
            case rel => exact ⟨m + 1, i + 1, by go_num, by go_num, by omega, Lib.hid (by rw [hc.out, if_pos rfl, ← hm.out]), Lib.hid (by have := hmi.out; omega), HM2⟩
            case measure => simp [intOf]; omega
          | false =>
            go_wp2_with fail
            go_roundw
            case rel => exact ⟨m, i + 1, rfl, by go_num, by omega, Lib.hid (by rw [hc.out, if_neg (by decide), ← hm.out, Nat.add_zero]), Lib.hid (by have := hmi.out; omega), HM2⟩
            case measure => simp [intOf]; omega
        · obtain rfl : l.length = i := by omega
          clear hlt
          go_upto_region 20 with fail
          have hmf := hm.out
          rw [List.take_length] at hmf
          have HMF := Lib.hid hmf
          have GW2 := Lib.hid HM2.out.gw
          have HXW := Lib.hid ((HX.out.on GB.out).on HM2.out.gw)
          clear hm hmf hmi HM HM2 HM0 HA
          have c0 : wr.cell? ⟨W.heap.size, 0, none⟩ = some (.int .i64 k0) := GW2.out.cell ((Has.new W 23 #[.int .i64 k0, .int .i64 k1]).cell 0)
          have c1 : wr.cell? ⟨W.heap.size, 1, none⟩ = some (.int .i64 k1) := GW2.out.cell ((Has.new W 23 #[.int .i64 k0, .int .i64 k1]).cell 1)
          obtain ⟨bk, hbk⟩ : ∃ x, x = W.heap.size := ⟨_, rfl⟩
          obtain ⟨g0, hg0⟩ : ∃ b, decide ((0 : Int) ≤ k0) = b := ⟨_, rfl⟩
          obtain ⟨g1, hg1⟩ : ∃ b, decide (k0 ≤ (6 : Int)) = b := ⟨_, rfl⟩
          obtain ⟨g2, hg2⟩ : ∃ b, ((l.length : Int) == k0) = b := ⟨_, rfl⟩
          obtain ⟨g3, hg3⟩ : ∃ b, decide ((m : Int) ≤ k1) = b := ⟨_, rfl⟩
          obtain ⟨b1, hb1⟩ : ∃ b, (g0 && g1) = b := ⟨_, rfl⟩
          obtain ⟨b2, hb2⟩ : ∃ b, (b1 && g2) = b := ⟨_, rfl⟩
          obtain ⟨r, hr⟩ : ∃ b, (b2 && g3) = b := ⟨_, rfl⟩
          have hmay : mayF l k0 k1 = r := by
            rw [← hr, ← hb2, ← hb1, ← hg0, ← hg1, ← hg2, ← hg3, HMF.out]
            unfold mayF
            rw [show ((l.length : Int) == k0) = decide ((l.length : Int) = k0) from rfl]
          have MY : Hid (∀ w, Gw wr w → Calls Try.prog 10 #[.slice A l.length ca, .int .i64 k0, .int .i64 k1] w fun e w' => e = .returned (.bool r) ∧ Gw w w') := Lib.hid fun w hG => by
            have := C.may k0 k1 (HXW.out.on hG) (by have := HL.out; omega) hk0 hk1
            rw [hmay] at this
            exact this
          have H0 := Lib.hid hg0
          have H1 := Lib.hid hg1
          have H2 := Lib.hid hg2
          have H3 := Lib.hid hg3
          have HB1 := Lib.hid hb1
          have HB2 := Lib.hid hb2
          have HB3 := Lib.hid hr
          clear hg0 hg1 hg2 hg3 hb1 hb2 hr hmay
          show (Code.region 20 _ true).wp _ _ (mkD (fun i => ([.slice A l.length ca, .int .u8 (n : Int), .agg #[.int .i64 k0, .int .i64 k1], undef, undef, .pointer (some ⟨W.heap.size, 0, none⟩), u6, .pointer (some a), .int .i64 (n : Int), u9, .int .i64 (m : Int), .int .i64 (l.length : Int), .bool true, .bool false, .slice A l.length ca, .int .i64 (l.length : Int), .bool false, .slice A l.length ca, .pointer (some a), .pointer (some a), .bool false, .int .i64 (n : Int), .int .u8 (n : Int), .int .i64 (n : Int), .bool false, u25, u26, u27, u28, u29, u30, u31, u32, u33, u34, u35, u36, u37, u38, u39, u40, u41, u42, u43, u44, u45, u46, u47, u48, u49, u50, .int .i64 (l.length : Int), .slice A l.length ca, .int .i64 (l.length : Int), .bool false, u55, u56, u57, u58, u59, u60, u61, u62] : List Value).getD i undef) (fun j => if j = 28 then u6 else undef)) _
          generalize hU : (fun i => ([.slice A l.length ca, .int .u8 (n : Int), .agg #[.int .i64 k0, .int .i64 k1], undef, undef, .pointer (some ⟨W.heap.size, 0, none⟩), u6, .pointer (some a), .int .i64 (n : Int), u9, .int .i64 (m : Int), .int .i64 (l.length : Int), .bool true, .bool false, .slice A l.length ca, .int .i64 (l.length : Int), .bool false, .slice A l.length ca, .pointer (some a), .pointer (some a), .bool false, .int .i64 (n : Int), .int .u8 (n : Int), .int .i64 (n : Int), .bool false, u25, u26, u27, u28, u29, u30, u31, u32, u33, u34, u35, u36, u37, u38, u39, u40, u41, u42, u43, u44, u45, u46, u47, u48, u49, u50, .int .i64 (l.length : Int), .slice A l.length ca, .int .i64 (l.length : Int), .bool false, u55, u56, u57, u58, u59, u60, u61, u62] : List Value).getD i undef) = U
          have hU0 : U 0 = .slice A l.length ca := by rw [← hU]; rfl
          have hU5 : U 5 = .pointer (some ⟨bk, 0, none⟩) := by rw [← hU, hbk]; rfl
          have hU10 : U 10 = .int .i64 (m : Int) := by rw [← hU]; rfl
          rw [← hbk] at c0 c1
          have HU := Lib.hid hU
          clear hU hbk
          refine region_guards (mk := mkD U) (Ok := fun j v w => v = ([.slice A l.length ca, .pointer (some ⟨bk, 0, none⟩), .int .i64 k0, .pointer (some ⟨bk, 1, none⟩), .int .i64 k1, .bool r, .pointer (some ⟨bk, 0, none⟩), .int .i64 k0, .bool g0, .bool g0, (if g0 = true then .pointer (some ⟨bk, 0, none⟩) else undef), (if g0 = true then .int .i64 k0 else undef), (if g0 = true then .bool g1 else undef), .bool b1, .bool b1, (if b1 = true then .slice A l.length ca else undef), (if b1 = true then .int .i64 (l.length : Int) else undef), (if b1 = true then .pointer (some ⟨bk, 0, none⟩) else undef), (if b1 = true then .int .i64 k0 else undef), (if b1 = true then .bool g2 else undef), .bool b2, .bool b2, (if b2 = true then .int .i64 (m : Int) else undef), (if b2 = true then .pointer (some ⟨bk, 1, none⟩) else undef), (if b2 = true then .int .i64 k1 else undef), (if b2 = true then .bool g3 else undef), .bool r, .bool true, .bool true] : List Value).getD j undef) (n := 29) ?_ (by kernel_rfl) ?_ (fun j v w w' h _ => h) ?_ ?_ ?_
          · rfl
          · exact ops_wf (by decide +kernel)
          · intro i o' v x ho
            have hi : i < 29 := (Array.getElem?_eq_some_iff.1 ho).1
            rcases (by omega : i = 0 ∨ i = 1 ∨ i = 2 ∨ i = 3 ∨ i = 4 ∨ i = 5 ∨ i = 6 ∨ i = 7 ∨ i = 8 ∨ i = 9 ∨ i = 10 ∨ i = 11 ∨ i = 12 ∨ i = 13 ∨ i = 14 ∨ i = 15 ∨ i = 16 ∨ i = 17 ∨ i = 18 ∨ i = 19 ∨ i = 20 ∨ i = 21 ∨ i = 22 ∨ i = 23 ∨ i = 24 ∨ i = 25 ∨ i = 26 ∨ i = 27 ∨ i = 28) with rfl | rfl | rfl | rfl | rfl | rfl | rfl | rfl | rfl | rfl | rfl | rfl | rfl | rfl | rfl | rfl | rfl | rfl | rfl | rfl | rfl | rfl | rfl | rfl | rfl | rfl | rfl | rfl | rfl
            all_goals (cases ho; rfl)
          · intro i o' v w ho hG hdep
            have hi : i < 29 := (Array.getElem?_eq_some_iff.1 ho).1
            rcases (by omega : i = 0 ∨ i = 1 ∨ i = 2 ∨ i = 3 ∨ i = 4 ∨ i = 5 ∨ i = 6 ∨ i = 7 ∨ i = 8 ∨ i = 9 ∨ i = 10 ∨ i = 11 ∨ i = 12 ∨ i = 13 ∨ i = 14 ∨ i = 15 ∨ i = 16 ∨ i = 17 ∨ i = 18 ∨ i = 19 ∨ i = 20 ∨ i = 21 ∨ i = 22 ∨ i = 23 ∨ i = 24 ∨ i = 25 ∨ i = 26 ∨ i = 27 ∨ i = 28) with rfl | rfl | rfl | rfl | rfl | rfl | rfl | rfl | rfl | rfl | rfl | rfl | rfl | rfl | rfl | rfl | rfl | rfl | rfl | rfl | rfl | rfl | rfl | rfl | rfl | rfl | rfl | rfl | rfl
            · cases ho
              refine .inr ⟨rfl, fun K hK => ?_⟩
              have s0 : (mkD U v).tmps[0]?.getD undef = .slice A l.length ca := hU0
              refine op_val (v := .slice A l.length ca) (w' := w) (by go_simp) ?_
              exact hK _ _ (Gw.refl _) rfl
            · cases ho
              refine .inr ⟨rfl, fun K hK => ?_⟩
              have s5 : (mkD U v).tmps[5]?.getD undef = .pointer (some ⟨bk, 0, none⟩) := hU5
              refine op_val (v := .pointer (some ⟨bk, 0, none⟩)) (w' := w) (by go_simp) ?_
              exact hK _ _ (Gw.refl _) rfl
            · cases ho
              refine .inr ⟨rfl, fun K hK => ?_⟩
              have e1 : (mkD U v).tmps[64]?.getD undef = .pointer (some ⟨bk, 0, none⟩) := hdep ⟨1, .data⟩ (by simp) rfl
              have f0 := hG.cell c0
              refine op_val (v := .int .i64 k0) (w' := w) (by go_simp) ?_
              exact hK _ _ (Gw.refl _) rfl
            · cases ho
              refine .inr ⟨rfl, fun K hK => ?_⟩
              have s5 : (mkD U v).tmps[5]?.getD undef = .pointer (some ⟨bk, 0, none⟩) := hU5
              refine op_val (v := .pointer (some ⟨bk, 1, none⟩)) (w' := w) (by go_simp) ?_
              exact hK _ _ (Gw.refl _) rfl
            · cases ho
              refine .inr ⟨rfl, fun K hK => ?_⟩
              have e3 : (mkD U v).tmps[66]?.getD undef = .pointer (some ⟨bk, 1, none⟩) := hdep ⟨3, .data⟩ (by simp) rfl
              have f0 := hG.cell c1
              refine op_val (v := .int .i64 k1) (w' := w) (by go_simp) ?_
              exact hK _ _ (Gw.refl _) rfl
            · cases ho
              refine .inr ⟨rfl, fun K hK => ?_⟩
              have e0 : (mkD U v).tmps[63]?.getD undef = .slice A l.length ca := hdep ⟨0, .data⟩ (by simp) rfl
              have e2 : (mkD U v).tmps[65]?.getD undef = .int .i64 k0 := hdep ⟨2, .data⟩ (by simp) rfl
              have e4 : (mkD U v).tmps[67]?.getD undef = .int .i64 k1 := hdep ⟨4, .data⟩ (by simp) rfl
              refine op_enter (f := 10) (args := #[.slice A l.length ca, .int .i64 k0, .int .i64 k1]) (by go_simp) ?_
              refine (MY.out w hG).mono ?_
              rintro e w9 ⟨rfl, G9⟩
              exact hK _ _ G9 rfl
            · cases ho
              refine .inr ⟨rfl, fun K hK => ?_⟩
              have s5 : (mkD U v).tmps[5]?.getD undef = .pointer (some ⟨bk, 0, none⟩) := hU5
              refine op_val (v := .pointer (some ⟨bk, 0, none⟩)) (w' := w) (by go_simp) ?_
              exact hK _ _ (Gw.refl _) rfl
            · cases ho
              refine .inr ⟨rfl, fun K hK => ?_⟩
              have e6 : (mkD U v).tmps[69]?.getD undef = .pointer (some ⟨bk, 0, none⟩) := hdep ⟨6, .data⟩ (by simp) rfl
              have f0 := hG.cell c0
              refine op_val (v := .int .i64 k0) (w' := w) (by go_simp) ?_
              exact hK _ _ (Gw.refl _) rfl
            · cases ho
              refine .inr ⟨rfl, fun K hK => ?_⟩
              have e7 : (mkD U v).tmps[70]?.getD undef = .int .i64 k0 := hdep ⟨7, .data⟩ (by simp) rfl
              have f0 := H0.out
              refine op_val (v := .bool g0) (w' := w) (by go_simp) ?_
              exact hK _ _ (Gw.refl _) rfl
            · cases ho
              refine .inr ⟨rfl, fun K hK => ?_⟩
              have e8 : (mkD U v).tmps[71]?.getD undef = .bool g0 := hdep ⟨8, .data⟩ (by simp) rfl
              refine op_val (v := .bool g0) (w' := w) (by go_simp) ?_
              exact hK _ _ (Gw.refl _) rfl
            · cases ho
              have hw : v 9 = .bool g0 := hdep ⟨9, .guard⟩ (by simp) rfl
              by_cases hbt : g0 = true
              · refine .inr ⟨(wanted_of (d := 72) (c := g0) rfl rfl (congrArg some hw)).trans (by rw [hbt]; rfl), fun K hK => ?_⟩
                have s5 : (mkD U v).tmps[5]?.getD undef = .pointer (some ⟨bk, 0, none⟩) := hU5
                refine op_val (v := .pointer (some ⟨bk, 0, none⟩)) (w' := w) (by go_simp) ?_
                exact hK _ _ (Gw.refl _) (if_pos hbt).symm
              · exact .inl ⟨(wanted_of (d := 72) (c := g0) rfl rfl (congrArg some hw)).trans (by cases g0 <;> simp_all), (if_neg hbt).symm⟩
            · cases ho
              have hw : v 9 = .bool g0 := hdep ⟨9, .guard⟩ (by simp) rfl
              by_cases hbt : g0 = true
              · refine .inr ⟨(wanted_of (d := 72) (c := g0) rfl rfl (congrArg some hw)).trans (by rw [hbt]; rfl), fun K hK => ?_⟩
                have e10 : (mkD U v).tmps[73]?.getD undef = .pointer (some ⟨bk, 0, none⟩) := (show v 10 = _ from hdep ⟨10, .data⟩ (by simp) rfl).trans (if_pos hbt)
                have f0 := hG.cell c0
                refine op_val (v := .int .i64 k0) (w' := w) (by go_simp) ?_
                exact hK _ _ (Gw.refl _) (if_pos hbt).symm
              · exact .inl ⟨(wanted_of (d := 72) (c := g0) rfl rfl (congrArg some hw)).trans (by cases g0 <;> simp_all), (if_neg hbt).symm⟩
            · cases ho
              have hw : v 9 = .bool g0 := hdep ⟨9, .guard⟩ (by simp) rfl
              by_cases hbt : g0 = true
              · refine .inr ⟨(wanted_of (d := 72) (c := g0) rfl rfl (congrArg some hw)).trans (by rw [hbt]; rfl), fun K hK => ?_⟩
                have e11 : (mkD U v).tmps[74]?.getD undef = .int .i64 k0 := (show v 11 = _ from hdep ⟨11, .data⟩ (by simp) rfl).trans (if_pos hbt)
                have f0 := H1.out
                refine op_val (v := .bool g1) (w' := w) (by go_simp) ?_
                exact hK _ _ (Gw.refl _) (if_pos hbt).symm
              · exact .inl ⟨(wanted_of (d := 72) (c := g0) rfl rfl (congrArg some hw)).trans (by cases g0 <;> simp_all), (if_neg hbt).symm⟩
            · cases ho
              refine .inr ⟨rfl, fun K hK => ?_⟩
              have e9 : (mkD U v).tmps[72]?.getD undef = .bool g0 := hdep ⟨9, .data⟩ (by simp) rfl
              have e12 : (mkD U v).tmps[75]?.getD undef = (if g0 = true then .bool g1 else undef) := hdep ⟨12, .data⟩ (by simp) rfl
              have f0 := HB1.out
              refine op_val (v := .bool b1) (w' := w) (by cases g0 <;> first | (go_simp; done) | (rw [← f0]; go_simp; done) | (go_simp; exact f0.symm)) ?_
              exact hK _ _ (Gw.refl _) rfl
            · cases ho
              refine .inr ⟨rfl, fun K hK => ?_⟩
              have e13 : (mkD U v).tmps[76]?.getD undef = .bool b1 := hdep ⟨13, .data⟩ (by simp) rfl
              refine op_val (v := .bool b1) (w' := w) (by go_simp) ?_
              exact hK _ _ (Gw.refl _) rfl
            · cases ho
              have hw : v 14 = .bool b1 := hdep ⟨14, .guard⟩ (by simp) rfl
              by_cases hbt : b1 = true
              · refine .inr ⟨(wanted_of (d := 77) (c := b1) rfl rfl (congrArg some hw)).trans (by rw [hbt]; rfl), fun K hK => ?_⟩
                have s0 : (mkD U v).tmps[0]?.getD undef = .slice A l.length ca := hU0
                refine op_val (v := .slice A l.length ca) (w' := w) (by go_simp) ?_
                exact hK _ _ (Gw.refl _) (if_pos hbt).symm
              · exact .inl ⟨(wanted_of (d := 77) (c := b1) rfl rfl (congrArg some hw)).trans (by cases b1 <;> simp_all), (if_neg hbt).symm⟩
            · cases ho
              have hw : v 14 = .bool b1 := hdep ⟨14, .guard⟩ (by simp) rfl
              by_cases hbt : b1 = true
              · refine .inr ⟨(wanted_of (d := 77) (c := b1) rfl rfl (congrArg some hw)).trans (by rw [hbt]; rfl), fun K hK => ?_⟩
                have e15 : (mkD U v).tmps[78]?.getD undef = .slice A l.length ca := (show v 15 = _ from hdep ⟨15, .data⟩ (by simp) rfl).trans (if_pos hbt)
                refine op_val (v := .int .i64 (l.length : Int)) (w' := w) (by go_simp) ?_
                exact hK _ _ (Gw.refl _) (if_pos hbt).symm
              · exact .inl ⟨(wanted_of (d := 77) (c := b1) rfl rfl (congrArg some hw)).trans (by cases b1 <;> simp_all), (if_neg hbt).symm⟩
            · cases ho
              have hw : v 14 = .bool b1 := hdep ⟨14, .guard⟩ (by simp) rfl
              by_cases hbt : b1 = true
              · refine .inr ⟨(wanted_of (d := 77) (c := b1) rfl rfl (congrArg some hw)).trans (by rw [hbt]; rfl), fun K hK => ?_⟩
                have s5 : (mkD U v).tmps[5]?.getD undef = .pointer (some ⟨bk, 0, none⟩) := hU5
                refine op_val (v := .pointer (some ⟨bk, 0, none⟩)) (w' := w) (by go_simp) ?_
                exact hK _ _ (Gw.refl _) (if_pos hbt).symm
              · exact .inl ⟨(wanted_of (d := 77) (c := b1) rfl rfl (congrArg some hw)).trans (by cases b1 <;> simp_all), (if_neg hbt).symm⟩
            · cases ho
              have hw : v 14 = .bool b1 := hdep ⟨14, .guard⟩ (by simp) rfl
              by_cases hbt : b1 = true
              · refine .inr ⟨(wanted_of (d := 77) (c := b1) rfl rfl (congrArg some hw)).trans (by rw [hbt]; rfl), fun K hK => ?_⟩
                have e17 : (mkD U v).tmps[80]?.getD undef = .pointer (some ⟨bk, 0, none⟩) := (show v 17 = _ from hdep ⟨17, .data⟩ (by simp) rfl).trans (if_pos hbt)
                have f0 := hG.cell c0
                refine op_val (v := .int .i64 k0) (w' := w) (by go_simp) ?_
                exact hK _ _ (Gw.refl _) (if_pos hbt).symm
              · exact .inl ⟨(wanted_of (d := 77) (c := b1) rfl rfl (congrArg some hw)).trans (by cases b1 <;> simp_all), (if_neg hbt).symm⟩
            · cases ho
              have hw : v 14 = .bool b1 := hdep ⟨14, .guard⟩ (by simp) rfl
              by_cases hbt : b1 = true
              · refine .inr ⟨(wanted_of (d := 77) (c := b1) rfl rfl (congrArg some hw)).trans (by rw [hbt]; rfl), fun K hK => ?_⟩
                have e16 : (mkD U v).tmps[79]?.getD undef = .int .i64 (l.length : Int) := (show v 16 = _ from hdep ⟨16, .data⟩ (by simp) rfl).trans (if_pos hbt)
                have e18 : (mkD U v).tmps[81]?.getD undef = .int .i64 k0 := (show v 18 = _ from hdep ⟨18, .data⟩ (by simp) rfl).trans (if_pos hbt)
                have f0 := H2.out
                refine op_val (v := .bool g2) (w' := w) (by go_simp) ?_
                exact hK _ _ (Gw.refl _) (if_pos hbt).symm
              · exact .inl ⟨(wanted_of (d := 77) (c := b1) rfl rfl (congrArg some hw)).trans (by cases b1 <;> simp_all), (if_neg hbt).symm⟩
            · cases ho
              refine .inr ⟨rfl, fun K hK => ?_⟩
              have e14 : (mkD U v).tmps[77]?.getD undef = .bool b1 := hdep ⟨14, .data⟩ (by simp) rfl
              have e19 : (mkD U v).tmps[82]?.getD undef = (if b1 = true then .bool g2 else undef) := hdep ⟨19, .data⟩ (by simp) rfl
              have f0 := HB2.out
              refine op_val (v := .bool b2) (w' := w) (by cases b1 <;> first | (go_simp; done) | (rw [← f0]; go_simp; done) | (go_simp; exact f0.symm)) ?_
              exact hK _ _ (Gw.refl _) rfl
            · cases ho
              refine .inr ⟨rfl, fun K hK => ?_⟩
              have e20 : (mkD U v).tmps[83]?.getD undef = .bool b2 := hdep ⟨20, .data⟩ (by simp) rfl
              refine op_val (v := .bool b2) (w' := w) (by go_simp) ?_
              exact hK _ _ (Gw.refl _) rfl
            · cases ho
              have hw : v 21 = .bool b2 := hdep ⟨21, .guard⟩ (by simp) rfl
              by_cases hbt : b2 = true
              · refine .inr ⟨(wanted_of (d := 84) (c := b2) rfl rfl (congrArg some hw)).trans (by rw [hbt]; rfl), fun K hK => ?_⟩
                have s10 : (mkD U v).tmps[10]?.getD undef = .int .i64 (m : Int) := hU10
                refine op_val (v := .int .i64 (m : Int)) (w' := w) (by go_simp) ?_
                exact hK _ _ (Gw.refl _) (if_pos hbt).symm
              · exact .inl ⟨(wanted_of (d := 84) (c := b2) rfl rfl (congrArg some hw)).trans (by cases b2 <;> simp_all), (if_neg hbt).symm⟩
            · cases ho
              have hw : v 21 = .bool b2 := hdep ⟨21, .guard⟩ (by simp) rfl
              by_cases hbt : b2 = true
              · refine .inr ⟨(wanted_of (d := 84) (c := b2) rfl rfl (congrArg some hw)).trans (by rw [hbt]; rfl), fun K hK => ?_⟩
                have s5 : (mkD U v).tmps[5]?.getD undef = .pointer (some ⟨bk, 0, none⟩) := hU5
                refine op_val (v := .pointer (some ⟨bk, 1, none⟩)) (w' := w) (by go_simp) ?_
                exact hK _ _ (Gw.refl _) (if_pos hbt).symm
              · exact .inl ⟨(wanted_of (d := 84) (c := b2) rfl rfl (congrArg some hw)).trans (by cases b2 <;> simp_all), (if_neg hbt).symm⟩
            · cases ho
              have hw : v 21 = .bool b2 := hdep ⟨21, .guard⟩ (by simp) rfl
              by_cases hbt : b2 = true
              · refine .inr ⟨(wanted_of (d := 84) (c := b2) rfl rfl (congrArg some hw)).trans (by rw [hbt]; rfl), fun K hK => ?_⟩
                have e23 : (mkD U v).tmps[86]?.getD undef = .pointer (some ⟨bk, 1, none⟩) := (show v 23 = _ from hdep ⟨23, .data⟩ (by simp) rfl).trans (if_pos hbt)
                have f0 := hG.cell c1
                refine op_val (v := .int .i64 k1) (w' := w) (by go_simp) ?_
                exact hK _ _ (Gw.refl _) (if_pos hbt).symm
              · exact .inl ⟨(wanted_of (d := 84) (c := b2) rfl rfl (congrArg some hw)).trans (by cases b2 <;> simp_all), (if_neg hbt).symm⟩
            · cases ho
              have hw : v 21 = .bool b2 := hdep ⟨21, .guard⟩ (by simp) rfl
              by_cases hbt : b2 = true
              · refine .inr ⟨(wanted_of (d := 84) (c := b2) rfl rfl (congrArg some hw)).trans (by rw [hbt]; rfl), fun K hK => ?_⟩
                have e22 : (mkD U v).tmps[85]?.getD undef = .int .i64 (m : Int) := (show v 22 = _ from hdep ⟨22, .data⟩ (by simp) rfl).trans (if_pos hbt)
                have e24 : (mkD U v).tmps[87]?.getD undef = .int .i64 k1 := (show v 24 = _ from hdep ⟨24, .data⟩ (by simp) rfl).trans (if_pos hbt)
                have f0 := H3.out
                refine op_val (v := .bool g3) (w' := w) (by go_simp) ?_
                exact hK _ _ (Gw.refl _) (if_pos hbt).symm
              · exact .inl ⟨(wanted_of (d := 84) (c := b2) rfl rfl (congrArg some hw)).trans (by cases b2 <;> simp_all), (if_neg hbt).symm⟩
            · cases ho
              refine .inr ⟨rfl, fun K hK => ?_⟩
              have e21 : (mkD U v).tmps[84]?.getD undef = .bool b2 := hdep ⟨21, .data⟩ (by simp) rfl
              have e25 : (mkD U v).tmps[88]?.getD undef = (if b2 = true then .bool g3 else undef) := hdep ⟨25, .data⟩ (by simp) rfl
              have f0 := HB3.out
              refine op_val (v := .bool r) (w' := w) (by cases b2 <;> first | (go_simp; done) | (rw [← f0]; go_simp; done) | (go_simp; exact f0.symm)) ?_
              exact hK _ _ (Gw.refl _) rfl
            · cases ho
              refine .inr ⟨rfl, fun K hK => ?_⟩
              have e5 : (mkD U v).tmps[68]?.getD undef = .bool r := hdep ⟨5, .data⟩ (by simp) rfl
              have e26 : (mkD U v).tmps[89]?.getD undef = .bool r := hdep ⟨26, .data⟩ (by simp) rfl
              refine op_val (v := .bool true) (w' := w) (by cases r <;> go_simp) ?_
              exact hK _ _ (Gw.refl _) rfl
            · cases ho
              refine .inr ⟨rfl, fun K hK => ?_⟩
              have e27 : (mkD U v).tmps[90]?.getD undef = .bool true := hdep ⟨27, .data⟩ (by simp) rfl
              refine op_val (v := .bool true) (w' := w) (by go_simp) ?_
              exact hK _ _ (Gw.refl _) rfl
          · intro v w hG hall
            have h28 : v 28 = .bool true := hall 28 (by decide)
            have hG := Lib.hid hG
            have hU := HU.out
            clear hall HU hU0 hU5 hU10
            subst hU
            dsimp only [mkD]
            rw [h28]
            go_wp2_with fail
            go_ret
            exact ⟨rfl, (GB.out.trans GW2.out).trans hG.out⟩
end
end Go.Proofs.Ytcndclohbpediaa
