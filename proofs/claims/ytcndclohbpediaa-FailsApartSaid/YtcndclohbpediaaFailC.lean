/-
  The laws of fails over its contract: two that are asked by turns.
-/
import Derived.Test.YtcndclohbpediaaFailB
import Derived.Deep.DeepCutAuto
namespace Go.Proofs.Ytcndclohbpediaa
open Go.ChangeShapes Go.WideShapes Go.ChangeAt Go.RowKit Go.Joins
set_option linter.unusedVariables false
set_option linter.unusedSimpArgs false

theorem getd_min (l : List Bool) (i : Nat) : l[min i l.length]?.getD false = l[i]?.getD false := by
  by_cases h : i < l.length
  · rw [Nat.min_eq_left (Nat.le_of_lt h)]
  · rw [Nat.min_eq_right (by omega), List.getElem?_eq_none (Nat.le_refl _), List.getElem?_eq_none (by omega)]
theorem min_step (i n : Nat) : min (min i n + 1) n = min (i + 1) n := by omega
theorem getd_some {l : List Bool} {i : Nat} {b : Bool} (h : l[i]? = some b) : l[i]?.getD false = b := by rw [h]; rfl
theorem getd_none {l : List Bool} {i : Nat} (h : ¬ i < l.length) : l[i]?.getD false = false := by rw [List.getElem?_eq_none (by omega)]; rfl
section
variable {T : FlP} (C : FailC T)
include C
theorem m2_ask {W w : World} {v : Value} {l : List Bool} {i : Nat} {v' : Value} {l' : List Bool} {i' : Nat} {b : Bool} (M : M2 T W w v l (min i l.length) v' l' i') (hb : l[i]?.getD false = b) : Calls Try.prog 8 #[v] w fun e w' => e = .returned (.bool b) ∧ M2 T W w' v l (min (i + 1) l.length) v' l' i' := by
  have := m2_next C M
  rw [getd_min, hb, min_step] at this
  exact this
set_option maxRecDepth 100000 in
set_option maxHeartbeats 4000000 in
theorem lapart_walk {W : World} {x y z : Value} {la lb lt : List Bool} (hx : BlA W x la) (hy : BlA W y lb) (hz : BlA W z lt) : Calls Try.prog 5 #[x, y, z] W fun e W' => e = .returned (.bool true) ∧ Gw W W' := by
  have hn : ∀ b w, (Op.unary .not (.bool b)).run Try.prog w = .ok (.bool (!b)) w := fun _ _ => rfl
  have AW := awake_l C W
  have HX := Lib.hid hx
  have HY := Lib.hid hy
  have HZ := Lib.hid hz
  obtain ⟨A, ca, rfl, _, _, hA⟩ := hx
  obtain ⟨B, cb, rfl, _, _, hB⟩ := hy
  obtain ⟨D, cd, rfl, _, _, hD⟩ := hz
  have HA := Lib.hid hA
  have HB := Lib.hid hB
  have HD := Lib.hid hD
  clear hA hB hD
  by_cases h1 : 100 < la.length
  · have t1 : decide ((100 : Int) < (la.length : Int)) = true := decide_eq_true (by omega)
    go_enter Try.func5, Try.ntmps5
    go_wp2_with (go_at_call 6; (with_reducible refine AW.mono ?_); rintro e w0 ⟨rfl, G0⟩)
    go_ret
    exact ⟨rfl, G0⟩
  have t1 : decide ((100 : Int) < (la.length : Int)) = false := decide_eq_false (by omega)
  by_cases h2 : 100 < lb.length
  · have t2 : decide ((100 : Int) < (lb.length : Int)) = true := decide_eq_true (by omega)
    clear h1
    go_enter Try.func5, Try.ntmps5
    go_wp2_with (go_at_call 6; (with_reducible refine AW.mono ?_); rintro e w0 ⟨rfl, G0⟩)
    go_ret
    exact ⟨rfl, G0⟩
  have t2 : decide ((100 : Int) < (lb.length : Int)) = false := decide_eq_false (by omega)
  by_cases h3 : 300 < lt.length
  · have t3 : decide ((300 : Int) < (lt.length : Int)) = true := decide_eq_true (by omega)
    clear h1 h2
    go_enter Try.func5, Try.ntmps5
    go_wp2_with (go_at_call 6; (with_reducible refine AW.mono ?_); rintro e w0 ⟨rfl, G0⟩)
    go_ret
    exact ⟨rfl, G0⟩
  have t3 : decide ((300 : Int) < (lt.length : Int)) = false := decide_eq_false (by omega)
  have HL : Hid (la.length ≤ 100 ∧ lb.length ≤ 100 ∧ lt.length ≤ 300) := ⟨by omega, by omega, by omega⟩
  clear h1 h2 h3
  go_enter Try.func5, Try.ntmps5
  go_upto_region 8 with (first
    | (go_at_call 6; (with_reducible refine AW.mono ?_); rintro e w0 ⟨rfl, G0⟩; have N0 := l_new C G0 (HX.out.on G0) (by have := HL.out; omega); clear AW)
    | (go_at_call 7; (with_reducible refine N0.mono ?_); rintro e w1 ⟨a, rfl, M1⟩; have N1 := m2_new C M1 (HY.out.on M1.gw) (by have := HL.out; omega); clear N0)
    | (go_at_call 7; (with_reducible refine N1.mono ?_); rintro e w2 ⟨b, rfl, MM⟩; clear N1))
  have HM0 := Lib.hid MM
  clear MM M1 G0 t1 t2 t3
  go_wp2_with fail
  go_loopw [9, 10, 11] (fun xi xk xt wr => ∃ i k t : Nat, xi = .int .i64 (i : Int) ∧ xk = .int .i64 (k : Int) ∧ xt = .int .i64 (t : Int) ∧ t ≤ lt.length ∧ Hid (i ≤ t ∧ k ≤ t) ∧ Hid (M2 T W wr (.pointer (some a)) la (min i la.length) (.pointer (some b)) lb (min k lb.length))) (fun _ _ xt _ => lt.length - (intOf xt).toNat)
  case atStart => exact ⟨0, 0, 0, rfl, rfl, rfl, Nat.zero_le _, ⟨Nat.le_refl _, Nat.le_refl _⟩, by rw [Nat.zero_min, Nat.zero_min]; exact HM0.out⟩
  case round =>
    obtain ⟨i, k, t, rfl, rfl, rfl, ht, HI, HM⟩ := hrel
    have h62 : (t : Int) + 1 ≤ 9223372036854775807 := by have := HL.out; omega
    have h62i : (i : Int) + 1 ≤ 9223372036854775807 := by have := HL.out; have := HI.out; omega
    have h62k : (k : Int) + 1 ≤ 9223372036854775807 := by have := HL.out; have := HI.out; omega
    by_cases hlt : t < lt.length
    · obtain ⟨bt, hbt⟩ : ∃ bt, lt[t]? = some bt := ⟨_, List.getElem?_eq_getElem hlt⟩
      obtain ⟨gd, od, rfl, ct⟩ := HD.out t bt hbt
      have ct := HM.out.gw.cell ct
      clear hbt
      cases bt with
      | true =>
        by_cases hi : i < la.length
        · obtain ⟨bi, hbi⟩ : ∃ bi, la[i]? = some bi := ⟨_, List.getElem?_eq_getElem hi⟩
          obtain ⟨ga, oa, rfl, ci⟩ := HA.out i bi hbi
          have N2 := m2_ask C HM.out (getd_some hbi)
          have HC : Hid (∀ w', M2 T W w' (.pointer (some a)) la (min (i + 1) la.length) (.pointer (some b)) lb (min k lb.length) → w'.cell? ⟨ga, oa + i, none⟩ = some (.bool bi)) := fun w' M => M.gw.cell ci
          clear hbi ci
          go_wp2_with (go_at_call 8; (with_reducible refine N2.mono ?_); rintro e w3 ⟨rfl, M3⟩; have c3 := HC.out w3 M3; replace M3 := Lib.hid M3)
          go_roundw
          case rel => exact ⟨i + 1, k, t + 1, by go_num, rfl, by go_num, by omega, ⟨by have := HI.out; omega, by have := HI.out; omega⟩, M3.out⟩
          case measure => simp [intOf]; omega
        · have N2 := m2_ask C HM.out (getd_none hi)
          go_wp2_with (go_at_call 8; (with_reducible refine N2.mono ?_); rintro e w3 ⟨rfl, M3⟩; replace M3 := Lib.hid M3)
          go_roundw
          case rel => exact ⟨i + 1, k, t + 1, by go_num, rfl, by go_num, by omega, ⟨by have := HI.out; omega, by have := HI.out; omega⟩, M3.out⟩
          case measure => simp [intOf]; omega
      | false =>
        by_cases hi : k < lb.length
        · obtain ⟨bi, hbi⟩ : ∃ bi, lb[k]? = some bi := ⟨_, List.getElem?_eq_getElem hi⟩
          obtain ⟨ga, oa, rfl, ci⟩ := HB.out k bi hbi
          have N2 := m2_ask C HM.out.swap (getd_some hbi)
          have HC : Hid (∀ w', M2 T W w' (.pointer (some b)) lb (min (k + 1) lb.length) (.pointer (some a)) la (min i la.length) → w'.cell? ⟨ga, oa + k, none⟩ = some (.bool bi)) := fun w' M => M.gw.cell ci
          clear hbi ci
          go_wp2_with (go_at_call 8; (with_reducible refine N2.mono ?_); rintro e w3 ⟨rfl, M3⟩; have c3 := HC.out w3 M3; replace M3 := Lib.hid M3)
          go_roundw
          case rel => exact ⟨i, k + 1, t + 1, rfl, by go_num, by go_num, by omega, ⟨by have := HI.out; omega, by have := HI.out; omega⟩, M3.out.swap⟩
          case measure => simp [intOf]; omega
        · have N2 := m2_ask C HM.out.swap (getd_none hi)
          go_wp2_with (go_at_call 8; (with_reducible refine N2.mono ?_); rintro e w3 ⟨rfl, M3⟩; replace M3 := Lib.hid M3)
          go_roundw
          case rel => exact ⟨i, k + 1, t + 1, rfl, by go_num, by go_num, by omega, ⟨by have := HI.out; omega, by have := HI.out; omega⟩, M3.out.swap⟩
          case measure => simp [intOf]; omega
    · obtain rfl : lt.length = t := by omega
      have HM1 := HM.out
      clear HM
      have q1 : (if (la.length : Int) < (i : Int) then (la.length : Int) else (i : Int)) = ((min i la.length : Nat) : Int) := by split <;> omega
      have q2 : (if (lb.length : Int) < (k : Int) then (lb.length : Int) else (k : Int)) = ((min k lb.length : Nat) : Int) := by split <;> omega
      have p1 : ∀ (ts : Array TypeId) (ty : TypeId) (w : World), (Builtin.min_ ts ty #[.int .i64 (i : Int), .int .i64 (la.length : Int)]).run Try.prog w = .ok (.int .i64 ((min i la.length : Nat) : Int)) w := fun ts ty w => by rw [run_min_int2, q1]
      have p2 : ∀ (ts : Array TypeId) (ty : TypeId) (w : World), (Builtin.min_ ts ty #[.int .i64 (k : Int), .int .i64 (lb.length : Int)]).run Try.prog w = .ok (.int .i64 ((min k lb.length : Nat) : Int)) w := fun ts ty w => by rw [run_min_int2, q2]
      clear q1 q2
      generalize min i la.length = mi at HM1 p1
      generalize min k lb.length = mk at HM1 p2
      have U1 := m2_used C HM1
      clear HM1
      go_wp2_with (first
        | (go_at_call 9; (with_reducible refine U1.mono ?_); rintro e w3 ⟨rfl, M3⟩; have U2 := m2_used C M3.swap; clear U1 M3)
        | (go_at_call 9; (with_reducible refine U2.mono ?_); rintro e w4 ⟨rfl, M4⟩; replace M4 := Lib.hid M4.gw; clear U2))
      go_ret
      exact ⟨rfl, M4.out⟩
end
end Go.Proofs.Ytcndclohbpediaa
