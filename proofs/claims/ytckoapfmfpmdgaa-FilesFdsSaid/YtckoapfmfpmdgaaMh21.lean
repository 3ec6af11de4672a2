/-
  Parts of the proof, joined: FileWq, FileWt.
-/
import Derived.Test.YtckoapfmfpmdgaaMh20
import Derived.Maps.AppendAt
import Derived.Laws.AppendOwnNone

namespace Go.Proofs.Ytckoapfmfpmdgaa
open Go.ChangeShapes Go.WideShapes Go.ChangeAt Go.RowKit Go.Joins
set_option linter.unusedVariables false
set_option linter.unusedSimpArgs false

theorem bta_take {w : World} {A : Option Addr} {n cap : Nat} {l : List UInt8} (h : BtA w (.slice A n cap) l) (m : Nat) (hm : m ≤ n) : BtA w (.slice A m cap) (l.take m) := by
  obtain ⟨A', c', e, h2, h3, h4⟩ := h
  injection e with e1 e2 e3
  subst e1 e2 e3
  refine ⟨A, cap, by rw [List.length_take, Nat.min_eq_left hm], by rw [List.length_take]; omega, h3, fun j c hj => ?_⟩
  rw [List.getElem?_take] at hj
  split at hj
  · exact h4 j c hj
  · cases hj
theorem wr_start {T : FP} (C : FilesC T) {w : World} {v : Value} {b : List UInt8} (hv : BtA w v b) (h8 : b.length ≤ 8) : Calls Try.prog 30 #[.slice (some ⟨w.heap.size, 0, none⟩) 1 1, .slice (some ⟨w.heap.size + 1, 0, none⟩) 1 1] ((w.alloc (.cells eaC 44)).alloc (.cells #[v] 52)) fun e w' =>
    ∃ a, e = .returned (.tuple #[.pointer (some a), .int .i64 0]) ∧ Fx T (fun k => k < w.heap.size) w' (.pointer (some a)) ⟨tw1, [b], [], [-1, -1, -1, -1]⟩ ∧ Gw w w' := by
  have G1 := Gw.alloc w (.cells eaC 44)
  have G3 := Gw.alloc (w.alloc (.cells eaC 44)) (.cells #[v] 52)
  have hx := (ent_row (es := ew) (Has.new w 44 eaC) (by rfl)).on G3
  have hv' := (hv.on G1).on G3
  have hy := dat_row (xs := [v]) (ds := [b]) (Has.new (w.alloc (.cells eaC 44)) 52 _) rfl (fun i x l h1 h2 => by
    match i, h1, h2 with
    | 0, h1, h2 => cases h1; cases h2; exact hv'
    | i + 1, h1, h2 => simp at h1)
  rw [size_alloc] at hy
  refine (x_new C hx hy (ent_sm (by decide +kernel)) (by decide) (by show 1 ≤ _; decide) (wr_new h8)).mono fun e w' ⟨a, h1, h2, h3⟩ => ⟨a, h1, h2.less (fun j hj => ?_), (G1.trans G3).trans h3⟩
  exact Nat.lt_of_lt_of_le hj (G1.trans G3).size
set_option maxRecDepth 100000 in
set_option maxHeartbeats 8000000 in
theorem write_nothing {T : FP} (C : FilesC T) {W : World} {z ca cb : Nat} {A B : Option Addr} {bl : List UInt8} (hz : z ≤ 255) (hy : BtA W (.slice A 0 ca) []) (hx : BtA W (.slice B bl.length cb) bl) (h8 : bl.length ≤ 8) : Calls Try.prog 10 #[.int .u8 (z : Int), .slice A 0 ca, .slice B bl.length cb] W fun e W' => e = .returned (.bool true) ∧ Gw W W' := by
  have hn : ∀ b w, (Op.unary .not (.bool b)).run Try.prog w = .ok (.bool (!b)) w := fun _ _ => rfl
  have AW := awake_files C W
  obtain ⟨k, hk⟩ : ∃ k : Nat, (z : Int) % 12 = k := ⟨z % 12, by omega⟩
  have hk12 : k < 12 := by omega
  have hwk : IntKind.u16.wrap (k : Int) = k := by
    simp only [IntKind.wrap, IntKind.bits, IntKind.signed]
    simp
    omega
  have n8 : ¬ (8 : Int) < bl.length := by omega
  go_enter Try.func10, Try.ntmps10
  go_upto_region 9 with (first
    | (go_at_call 28; with_reducible refine AW.mono ?_; rintro e wa ⟨rfl, Ga⟩; have hva := hx.on Ga; have Ga := Lib.hid Ga; have N1 := wr_start C hva h8; clear hva)
    | (go_at_call 30; refine N1.mono ?_; rintro e w0 ⟨a, rfl, M0, Gb⟩; clear N1; obtain ⟨K, hK⟩ : ∃ K : Nat → Prop, K = fun k => k < wa.heap.size := ⟨_, rfl⟩; rw [← hK] at M0; have Kb := Lib.hid (show ∀ x, x < W.heap.size → K x from (by rw [hK]; exact fun x hx => Nat.lt_of_lt_of_le hx Ga.out.size)); clear hK; have G0 := Lib.hid (Ga.out.trans Gb); have M0 := Lib.hid M0; have A1 : Calls Try.prog 33 #[.pointer (some a), .string ⟨#[97]⟩] w0 _ := x_open C M0.out ⟨#[97]⟩ (by decide) (wr_open h8) (few1 ltw1))
    | (go_at_call 33; with_reducible refine A1.mono ?_; clear A1; rintro e w1 ⟨rfl, M1, S1⟩; have G1 := Lib.hid (gw_sm G0.out (S1.less Kb.out)); have M1 := Lib.hid M1; clear S1; have A2 : Calls Try.prog 36 #[.pointer (some a), .int .u16 0, .int .u16 (k : Int)] w1 _ := x_seek C M1.out 0 k (by decide) (by omega) (wr_seek tw1 0 k (by omega) [bl]) (few1 ltw1)))
  rw [hk]
  clear hk
  go_wp2_with (first
    | (go_at_call 36; with_reducible refine A2.mono ?_; clear A2; rintro e w2 ⟨rfl, M2, S2⟩; have G2 := Lib.hid (gw_sm G1.out (S2.less Kb.out)); have M2 := Lib.hid M2; clear S2; have A3 : Calls Try.prog 37 #[.pointer (some a), .int .u16 0, .slice A 0 ca] w2 _ := x_write C M2.out 0 _ [] (by decide) (hy.on G2.out) (by decide) (wr_nothing tw1 k) (few1 ltw1))
    | (go_at_call 37; with_reducible refine A3.mono ?_; clear A3; rintro e w3 ⟨rfl, M3, S3⟩; have G3 := Lib.hid (gw_sm G2.out (S3.less Kb.out)); have M3 := Lib.hid M3; clear S3; have A4 : Calls Try.prog 38 #[.pointer (some a), .string ⟨#[97]⟩] w3 _ := x_data C M3.out ⟨#[97]⟩ (by decide) (wr_data [(0, k)] fd1))
    | (go_at_call 38; with_reducible refine A4.mono ?_; clear A4; rintro e w4 ⟨x4, rfl, M4, S4, X4⟩; have G4 := Lib.hid (gw_sm G3.out (S4.less Kb.out)); obtain ⟨K4, hK⟩ : ∃ K' : Nat → Prop, K' = (fun j => K j ∨ Bk x4 j) := ⟨_, rfl⟩; rw [← hK] at M4; have Ka4 := Lib.hid (show ∀ x, x < W.heap.size → K4 x from (by rw [hK]; exact fun x hx => .inl (Kb.out x hx))); have Kx4 := Lib.hid (show ∀ j, Bk x4 j → K4 j from (by rw [hK]; exact fun j hj => .inr hj)); have X4 := Lib.hid X4; clear hK; have M4 := Lib.hid M4; clear S4; have c4 := conv_bta X4.out; have c0 := conv_bta (hx.on G4.out)))
  all_goals (go_ret; exact ⟨rfl, G4.out⟩)
set_option maxRecDepth 100000 in
set_option maxHeartbeats 8000000 in
theorem write_full {T : FP} (C : FilesC T) {W : World} {z ca cb : Nat} {A B : Option Addr} {lb bl : List UInt8} (hz : z ≤ 255) (hz8 : 8 ≤ z % 12) (hy : BtA W (.slice A lb.length ca) lb) (h1 : lb ≠ []) (h40 : lb.length ≤ 40) (hx : BtA W (.slice B bl.length cb) bl) (h8 : bl.length ≤ 8) : Calls Try.prog 10 #[.int .u8 (z : Int), .slice A lb.length ca, .slice B bl.length cb] W fun e W' => e = .returned (.bool true) ∧ Gw W W' := by
  have hn : ∀ b w, (Op.unary .not (.bool b)).run Try.prog w = .ok (.bool (!b)) w := fun _ _ => rfl
  have AW := awake_files C W
  obtain ⟨k, hk⟩ : ∃ k : Nat, (z : Int) % 12 = k := ⟨z % 12, by omega⟩
  have hk12 : k < 12 := by omega
  have hwk : IntKind.u16.wrap (k : Int) = k := by
    simp only [IntKind.wrap, IntKind.bits, IntKind.signed]
    simp
    omega
  have hk8 : 8 ≤ k := by omega
  have n8 : ¬ (8 : Int) < bl.length := by omega
  have n40 : ¬ (40 : Int) < lb.length := by omega
  have n0 : ¬ (lb.length : Int) = 0 := fun e => h1 (List.eq_nil_of_length_eq_zero (by omega))
  have n0' : ((lb.length : Int) == 0) = false := beq_false_of_ne n0
  have hmn : min (lb.length : Int) (8 - (k : Int)) ≤ 0 := by omega
  go_enter Try.func10, Try.ntmps10
  go_upto_region 9 with (first
    | (go_at_call 28; with_reducible refine AW.mono ?_; rintro e wa ⟨rfl, Ga⟩; have hva := hx.on Ga; have Ga := Lib.hid Ga; have N1 := wr_start C hva h8; clear hva)
    | (go_at_call 30; refine N1.mono ?_; rintro e w0 ⟨a, rfl, M0, Gb⟩; clear N1; obtain ⟨K, hK⟩ : ∃ K : Nat → Prop, K = fun k => k < wa.heap.size := ⟨_, rfl⟩; rw [← hK] at M0; have Kb := Lib.hid (show ∀ x, x < W.heap.size → K x from (by rw [hK]; exact fun x hx => Nat.lt_of_lt_of_le hx Ga.out.size)); clear hK; have G0 := Lib.hid (Ga.out.trans Gb); have M0 := Lib.hid M0; have A1 : Calls Try.prog 33 #[.pointer (some a), .string ⟨#[97]⟩] w0 _ := x_open C M0.out ⟨#[97]⟩ (by decide) (wr_open h8) (few1 ltw1))
    | (go_at_call 33; with_reducible refine A1.mono ?_; clear A1; rintro e w1 ⟨rfl, M1, S1⟩; have G1 := Lib.hid (gw_sm G0.out (S1.less Kb.out)); have M1 := Lib.hid M1; clear S1; have A2 : Calls Try.prog 36 #[.pointer (some a), .int .u16 0, .int .u16 (k : Int)] w1 _ := x_seek C M1.out 0 k (by decide) (by omega) (wr_seek tw1 0 k (by omega) [bl]) (few1 ltw1)))
  rw [hk]
  clear hk
  go_wp2_with (first
    | (go_at_call 36; with_reducible refine A2.mono ?_; clear A2; rintro e w2 ⟨rfl, M2, S2⟩; have G2 := Lib.hid (gw_sm G1.out (S2.less Kb.out)); have M2 := Lib.hid M2; clear S2; have A3 : Calls Try.prog 37 #[.pointer (some a), .int .u16 0, .slice A lb.length ca] w2 _ := x_write C M2.out 0 _ lb (by decide) (hy.on G2.out) (by omega) (wr_full tw1 k h1 hk8) (few1 ltw1))
    | (go_at_call 37; with_reducible refine A3.mono ?_; clear A3; rintro e w3 ⟨rfl, M3, S3⟩; have G3 := Lib.hid (gw_sm G2.out (S3.less Kb.out)); have M3 := Lib.hid M3; clear S3))
  all_goals (go_ret; exact ⟨rfl, G3.out⟩)
set_option maxRecDepth 100000 in
set_option maxHeartbeats 4000000 in
theorem write_else {T : FP} (C : FilesC T) {W : World} {z n m ca cb : Nat} {A B : Option Addr} (h : 40 < n ∨ 8 < m) : Calls Try.prog 10 #[.int .u8 (z : Int), .slice A n ca, .slice B m cb] W fun e W' => e = .returned (.bool true) ∧ Gw W W' := by
  have hn : ∀ b w, (Op.unary .not (.bool b)).run Try.prog w = .ok (.bool (!b)) w := fun _ _ => rfl
  have AW := awake_files C W
  by_cases h0 : 40 < n
  · have n1 : (40 : Int) < n := by omega
    go_enter Try.func10, Try.ntmps10
    go_wp2_with (go_at_call 28; with_reducible refine AW.mono ?_; rintro e wa ⟨rfl, Ga⟩)
    go_ret
    exact ⟨rfl, Ga⟩
  · have n1 : ¬ (40 : Int) < n := by omega
    have n8 : (8 : Int) < m := by omega
    go_enter Try.func10, Try.ntmps10
    go_wp2_with (go_at_call 28; with_reducible refine AW.mono ?_; rintro e wa ⟨rfl, Ga⟩)
    go_ret
    exact ⟨rfl, Ga⟩
set_option maxRecDepth 100000 in
set_option maxHeartbeats 16000000 in
theorem write_main {T : FP} (C : FilesC T) {W : World} {z ca cb : Nat} {A B : Option Addr} {lb bl : List UInt8} (hz : z ≤ 255) (hz8 : z % 12 < 8) (hy : BtA W (.slice A lb.length ca) lb) (h1 : lb ≠ []) (h40 : lb.length ≤ 40) (hx : BtA W (.slice B bl.length cb) bl) (h8 : bl.length ≤ 8) : Calls Try.prog 10 #[.int .u8 (z : Int), .slice A lb.length ca, .slice B bl.length cb] W fun e W' => e = .returned (.bool true) ∧ Gw W W' := by
  have hn : ∀ b w, (Op.unary .not (.bool b)).run Try.prog w = .ok (.bool (!b)) w := fun _ _ => rfl
  have AW := awake_files C W
  obtain ⟨k, hk⟩ : ∃ k : Nat, (z : Int) % 12 = k := ⟨z % 12, by omega⟩
  have hk12 : k < 12 := by omega
  have hwk : IntKind.u16.wrap (k : Int) = k := by
    simp only [IntKind.wrap, IntKind.bits, IntKind.signed]
    simp
    omega
  obtain ⟨gb, ob, rfl⟩ : ∃ gb ob, A = some ⟨gb, ob, none⟩ := by
    obtain ⟨A', c', e, q1, q2, q3⟩ := hy
    injection e with e1 e2 e3
    obtain ⟨c, hc⟩ : ∃ c, lb[0]? = some c := ⟨_, List.getElem?_eq_getElem (List.length_pos_iff.2 h1)⟩
    obtain ⟨b, off, e4, _⟩ := q3 0 c hc
    exact ⟨b, off, e1.trans e4⟩
  have hk8 : k < 8 := by omega
  have n8 : ¬ (8 : Int) < bl.length := by omega
  have n40 : ¬ (40 : Int) < lb.length := by omega
  have hl0 : 0 < lb.length := List.length_pos_iff.2 h1
  have n0 : ¬ (lb.length : Int) = 0 := by omega
  have n0' : ((lb.length : Int) == 0) = false := beq_false_of_ne n0
  obtain ⟨m, hm⟩ : ∃ m : Nat, min (lb.length : Int) (8 - (k : Int)) = m := ⟨min lb.length (8 - k), by omega⟩
  obtain ⟨bt, hbt⟩ : ∃ bt, bt = lb.take (8 - k) := ⟨_, rfl⟩
  obtain ⟨P, hP⟩ : ∃ P, P = putL bl k bt := ⟨_, rfl⟩
  have hmn : min lb.length (8 - k) = m := by omega
  have hbm : bt.length = m := by rw [hbt, List.length_take]; omega
  have hm0 : 0 < m := by omega
  have hm8 : k + m ≤ 8 := by omega
  have hml : m ≤ lb.length := by omega
  have hPl : P.length = max bl.length (k + m) := by rw [hP, putL_len, hbm]
  have hbtm : bt = lb.take m := by rw [hbt, ← hmn, List.take_eq_take_iff]; omega
  have HWR : Hid (writeF ⟨tw1, [bl], [(0, k)], fd1⟩ 0 lb = ((m : Int), ⟨tw1, [P], [(0, k + m)], fd1⟩)) := by show _ = _; rw [wr_write tw1 k h1 hk8, hmn, ← hbt, ← hP]
  have HRD : Hid (readF ⟨tw1, [P], [(0, k)], fd1⟩ 0 m = ((bt, (m : Int)), ⟨tw1, [P], [(0, k + m)], fd1⟩)) := by
    show _ = _
    rw [wr_read tw1 k m m (by omega) (by omega), hP, ← hbm, putL_mid]
  have HIN : Hid (∀ j c, k ≤ j → j < k + m → P[j]? = some c → lb[j - k]? = some c) := fun j c a b hc => by
    rw [hP, putL_in a (by omega), hbtm, List.getElem?_take] at hc
    split at hc
    · exact hc
    · cases hc
  have HOUT : Hid (∀ j c, (j < k ∨ k + m ≤ j) → P[j]? = some c → (if j < bl.length then bl[j]? else some 0) = some c) := fun j c a hc => by
    have hj := (List.getElem?_eq_some_iff.1 hc).1
    rw [hP] at hj hc
    rw [putL_out (by omega) hj] at hc
    exact hc
  have HPL := Lib.hid hPl
  have HBM := Lib.hid hbm
  have hwm : IntKind.u16.wrap (m : Int) = m := by
    simp only [IntKind.wrap, IntKind.bits, IntKind.signed]
    simp
    omega
  have hmx : max (bl.length : Int) ((k : Int) + m) = P.length := by omega
  have HB := Lib.hid (bta_take hy m hml)
  rw [← hbtm] at HB
  have hmz : ¬ (m : Int) ≤ 0 := by omega
  have hmc : m ≤ ca := by
    obtain ⟨A', c', e, q1, q2, _⟩ := hy
    injection e with e1 e2 e3
    omega
  have c0 : (0 : Int) ≤ m := by omega
  have c1 : (m : Int) ≤ ca := by omega
  clear hP hbt hbtm hPl hbm hmn
  go_enter Try.func10, Try.ntmps10
  go_upto_region 9 with (first
    | (go_at_call 28; with_reducible refine AW.mono ?_; rintro e wa ⟨rfl, Ga⟩; have hva := hx.on Ga; have Ga := Lib.hid Ga; have N1 := wr_start C hva h8; clear hva)
    | (go_at_call 30; refine N1.mono ?_; rintro e w0 ⟨a, rfl, M0, Gb⟩; clear N1; obtain ⟨K, hK⟩ : ∃ K : Nat → Prop, K = fun k => k < wa.heap.size := ⟨_, rfl⟩; rw [← hK] at M0; have Kb := Lib.hid (show ∀ x, x < W.heap.size → K x from (by rw [hK]; exact fun x hx => Nat.lt_of_lt_of_le hx Ga.out.size)); clear hK; have G0 := Lib.hid (Ga.out.trans Gb); have M0 := Lib.hid M0; have A1 : Calls Try.prog 33 #[.pointer (some a), .string ⟨#[97]⟩] w0 _ := x_open C M0.out ⟨#[97]⟩ (by decide) (wr_open h8) (few1 ltw1))
    | (go_at_call 33; with_reducible refine A1.mono ?_; clear A1; rintro e w1 ⟨rfl, M1, S1⟩; have G1 := Lib.hid (gw_sm G0.out (S1.less Kb.out)); have M1 := Lib.hid M1; clear S1; have A2 : Calls Try.prog 36 #[.pointer (some a), .int .u16 0, .int .u16 (k : Int)] w1 _ := x_seek C M1.out 0 k (by decide) (by omega) (wr_seek tw1 0 k (by omega) [bl]) (few1 ltw1)))
  rw [hk]
  clear hk
  go_upto_region 13 with (first
    | (go_at_call 36; with_reducible refine A2.mono ?_; clear A2; rintro e w2 ⟨rfl, M2, S2⟩; have G2 := Lib.hid (gw_sm G1.out (S2.less Kb.out)); have M2 := Lib.hid M2; clear S2; have A3 : Calls Try.prog 37 #[.pointer (some a), .int .u16 0, .slice (some ⟨gb, ob, none⟩) lb.length ca] w2 _ := x_write C M2.out 0 _ lb (by decide) (hy.on G2.out) (by omega) HWR.out (few1 ltw1))
    | (go_at_call 37; with_reducible refine A3.mono ?_; clear A3; rintro e w3 ⟨rfl, M3, S3⟩; have G3 := Lib.hid (gw_sm G2.out (S3.less Kb.out)); have M3 := Lib.hid M3; clear S3; have A4 : Calls Try.prog 36 #[.pointer (some a), .int .u16 0, .int .u16 (k : Int)] w3 _ := x_seek C M3.out 0 k (by decide) (by omega) (wr_seek tw1 _ k (by omega) _) (few1 ltw1)))
  go_upto_region 21 with (first
    | (go_at_call 36; with_reducible refine A4.mono ?_; clear A4; rintro e w4 ⟨rfl, M4, S4⟩; have G4 := Lib.hid (gw_sm G3.out (S4.less Kb.out)); have M4 := Lib.hid M4; clear S4; have A5 : Calls Try.prog 35 #[.pointer (some a), .int .u16 0, .int .u16 (m : Int)] w4 _ := x_read C M4.out 0 m (by decide) (by omega) HRD.out (few1 ltw1))
    | (go_at_call 35; with_reducible refine A5.mono ?_; clear A5; rintro e w5 ⟨x5, rfl, M5, S5, X5⟩; have G5 := Lib.hid (gw_sm G4.out (S5.less Kb.out)); obtain ⟨K5, hK⟩ : ∃ K' : Nat → Prop, K' = (fun j => K j ∨ Bk x5 j) := ⟨_, rfl⟩; rw [← hK] at M5; have Ka5 := Lib.hid (show ∀ x, x < W.heap.size → K5 x from (by rw [hK]; exact fun x hx => .inl (Kb.out x hx))); have Kx5 := Lib.hid (show ∀ j, Bk x5 j → K5 j from (by rw [hK]; exact fun j hj => .inr hj)); have X5 := Lib.hid X5; clear hK; have M5 := Lib.hid M5; clear S5; have A6 : Calls Try.prog 38 #[.pointer (some a), .string ⟨#[97]⟩] w5 _ := x_data C M5.out ⟨#[97]⟩ (by decide) (wr_data [(0, k + m)] fd1))
    | (go_at_call 38; with_reducible refine A6.mono ?_; clear A6; rintro e w6 ⟨x6, rfl, M6, S6, X6⟩; have G6 := Lib.hid (gw_sm G5.out (S6.less Ka5.out)); have X5 := Lib.hid (X5.out.sm Kx5.out S6); obtain ⟨K6, hK⟩ : ∃ K' : Nat → Prop, K' = (fun j => K5 j ∨ Bk x6 j) := ⟨_, rfl⟩; rw [← hK] at M6; have Ka6 := Lib.hid (show ∀ x, x < W.heap.size → K6 x from (by rw [hK]; exact fun x hx => .inl (Ka5.out x hx))); have Kx5 := Lib.hid (show ∀ j, Bk x5 j → K6 j from (by rw [hK]; exact fun j hj => .inl (Kx5.out j hj))); have Kx6 := Lib.hid (show ∀ j, Bk x6 j → K6 j from (by rw [hK]; exact fun j hj => .inr hj)); have X6 := Lib.hid X6; clear hK; have M6 := Lib.hid M6; clear S6))
  obtain ⟨A5, p5, e5⟩ := bta_form X5.out
  obtain ⟨A6, p6, e6⟩ := bta_form X6.out
  subst e5
  subst e6
  have c5 : (convert 52 9 (.slice A5 bt.length p5)).run Try.prog w6.drew = .ok (.string (bs bt)) w6.drew := conv_bta (X5.out.on (Gw.refl w6).drew)
  have cB : (convert 52 9 (.slice (some ⟨gb, ob, none⟩) m ca)).run Try.prog w6.drew = .ok (.string (bs bt)) w6.drew := conv_bta ((HB.out.on G6.out).on (Gw.refl w6).drew)
  have HX6 := Lib.hid (X6.out.on (Gw.refl w6).drew)
  have HG := Lib.hid (G6.out.drew)
  clear M0 M1 M2 M3 M4 M5 M6 X5 X6 G0 G1 G2 G3 G4 G5 G6 Kb Ka5 Kx5 Ka6 Kx6 HWR HRD Ga Gb
  go_region
  have HXB := Lib.hid (hx.on HG.out)
  have HYB := Lib.hid (hy.on HG.out)
  clear c5 cB hx hy
  generalize w6.drew = wd at *
  go_upto_region 24 with fail
  go_loopw [18] (fun i wr => ∃ j : Nat, i = .int .i64 j ∧ j ≤ P.length ∧ wr = wd) (fun i _ => P.length - (intOf i).toNat)
  case atStart => exact ⟨0, rfl, Nat.zero_le _, rfl⟩
  case round =>
    obtain ⟨j, rfl, hj, rfl⟩ := hrel
    by_cases hlt : j < P.length
    · obtain ⟨c, hc⟩ : ∃ c, P[j]? = some c := ⟨_, List.getElem?_eq_getElem hlt⟩
      obtain ⟨g6, o6, rfl, d6⟩ : ∃ g o, A6 = some ⟨g, o, none⟩ ∧ wr.cell? ⟨g, o + j, none⟩ = some (.int .u8 (c.toNat : Int)) := by
        obtain ⟨A', c', e, q1, q2, q3⟩ := HX6.out
        injection e with e1 e2 e3
        obtain ⟨g, o, e4, h⟩ := q3 j c hc
        exact ⟨g, o, e1.trans e4, h⟩
      have hj8 : j ≤ 48 := by have := HPL.out; omega
      have HC := Lib.hid hc
      have HO := Lib.hid (fun a => HOUT.out j c a hc)
      have HI := Lib.hid (fun a b => HIN.out j c a b hc)
      have HBC : Hid (∀ cb, bl[j]? = some cb → ∃ g o, B = some ⟨g, o, none⟩ ∧ wr.cell? ⟨g, o + j, none⟩ = some (.int .u8 (cb.toNat : Int))) := fun cb hcb => by
        obtain ⟨A', c', e, q1, q2, q3⟩ := HXB.out
        injection e with e1 e2 e3
        obtain ⟨g, o, e4, h⟩ := q3 j cb hcb
        exact ⟨g, o, e1.trans e4, h⟩
      clear hc
      have t0 : (j : Int) < P.length := by omega
      have h62 : (j : Int) + 1 ≤ 9223372036854775807 := by omega
      by_cases hin : k ≤ j ∧ j < k + m
      · obtain ⟨q, hq⟩ : ∃ q : Nat, (j : Int) - (k : Int) = (q : Int) := ⟨j - k, by omega⟩
        have hqe : j - k = q := by omega
        have hlb := HI.out hin.1 hin.2
        rw [hqe] at hlb
        have dY : wr.cell? ⟨gb, ob + q, none⟩ = some (.int .u8 (c.toNat : Int)) := by
          obtain ⟨A', c', e, q1, q2, q3⟩ := HYB.out
          injection e with e1 e2 e3
          obtain ⟨g, o, e4, h⟩ := q3 q c hlb
          rw [← e1] at e4
          cases e4
          exact h
        have hql : q < lb.length := (List.getElem?_eq_some_iff.1 hlb).1
        have t1 : (k : Int) ≤ j := by omega
        have t2 : (j : Int) < (k : Int) + m := by omega
        clear hlb hqe hin
        by_cases hb2 : j < bl.length
        · obtain ⟨cb2, hcb⟩ : ∃ c, bl[j]? = some c := ⟨_, List.getElem?_eq_getElem hb2⟩
          obtain ⟨gB, oB, rfl, dB⟩ := HBC.out cb2 hcb
          clear hcb
          go_wp2
          go_roundw
          case rel => exact ⟨j + 1, by go_num, by omega, trivial⟩
          case measure => simp [intOf]; omega
        · have t3 : ¬ (j : Int) < bl.length := by omega
          clear hb2
          go_wp2
          go_roundw
          case rel => exact ⟨j + 1, by go_num, by omega, trivial⟩
          case measure => simp [intOf]; omega
      · have ho := HO.out (by omega)
        by_cases hb2 : j < bl.length
        · rw [if_pos hb2] at ho
          obtain ⟨gB, oB, rfl, dB⟩ := HBC.out c ho
          clear ho
          by_cases hjk : j < k
          · have t1 : ¬ (k : Int) ≤ j := by omega
            clear hin hjk
            go_wp2
            go_roundw
            case rel => exact ⟨j + 1, by go_num, by omega, trivial⟩
            case measure => simp [intOf]; omega
          · have t1 : (k : Int) ≤ j := by omega
            have t2 : ¬ (j : Int) < (k : Int) + m := by omega
            clear hin hjk
            go_wp2
            go_roundw
            case rel => exact ⟨j + 1, by go_num, by omega, trivial⟩
            case measure => simp [intOf]; omega
        · rw [if_neg hb2] at ho
          obtain rfl : 0 = c := Option.some.inj ho
          have t3 : ¬ (j : Int) < bl.length := by omega
          have d6' : wr.cell? ⟨g6, o6 + j, none⟩ = some (.int .u8 0) := d6
          clear ho hb2 d6
          by_cases hjk : j < k
          · have t1 : ¬ (k : Int) ≤ j := by omega
            clear hin hjk
            go_wp2
            go_roundw
            case rel => exact ⟨j + 1, by go_num, by omega, trivial⟩
            case measure => simp [intOf]; omega
          · have t1 : (k : Int) ≤ j := by omega
            have t2 : ¬ (j : Int) < (k : Int) + m := by omega
            clear hin hjk
            go_wp2
            go_roundw
            case rel => exact ⟨j + 1, by go_num, by omega, trivial⟩
            case measure => simp [intOf]; omega
    · have hlt' : ¬ (j : Int) < P.length := by omega
      clear hlt
      go_wp2
      go_ret
      exact ⟨rfl, HG.out⟩
theorem write_walk {T : FP} (C : FilesC T) {W : World} {z : Nat} (hz : z ≤ 255) {y x : Value} {lb bl : List UInt8} (hy : BtA W y lb) (hx : BtA W x bl) : Calls Try.prog 10 #[.int .u8 (z : Int), y, x] W fun e W' => e = .returned (.bool true) ∧ Gw W W' := by
  obtain ⟨A, ca, rfl⟩ := bta_form hy
  obtain ⟨B, cb, rfl⟩ := bta_form hx
  by_cases h40 : 40 < lb.length
  · exact write_else C (.inl h40)
  by_cases h8 : 8 < bl.length
  · exact write_else C (.inr h8)
  by_cases h1 : lb = []
  · subst h1
    exact write_nothing C hz hy hx (by omega)
  by_cases hk : z % 12 < 8
  · exact write_main C hz hk hy h1 (by omega) hx (by omega)
  · exact write_full C hz (by omega) hy h1 (by omega) hx (by omega)
end Go.Proofs.Ytckoapfmfpmdgaa

namespace Go.Proofs.Ytckoapfmfpmdgaa
open Go.ChangeShapes Go.WideShapes Go.ChangeAt Go.RowKit Go.Joins
set_option linter.unusedVariables false
set_option linter.unusedSimpArgs false

section
variable {T : FP} (C : FilesC T) {K : Nat → Prop} {w w' : World} {v : Value} {s : Fs}
include C
/-- Blocks beside it, and new ones, have changed. -/
theorem Fx.turned (M : Fx T K w v s) {row : Option Nat} (hg : w.grownBy w' row) (hr : ∀ k, row = some k → K k) {K' : Nat → Prop} (hK : ∀ k, K' k → K k ∨ (w.heap.size ≤ k ∧ k < w'.heap.size)) : Fx T K' w' v s := by
  obtain ⟨F, h, hF⟩ := M.m.ex
  refine ⟨⟨F, C.same h (fun k hk => hg.block k (C.lt h hk) (fun e => (hF k (hr k e.symm)).1 hk)), fun k hk => ?_⟩, M.ok, M.few⟩
  rcases hK k hk with q | ⟨q1, q2⟩
  · exact ⟨(hF k q).1, Nat.lt_of_lt_of_le (hF k q).2 hg.size⟩
  · exact ⟨fun hf => by have := C.lt h hf; omega, q2⟩
end
theorem row_lt {w : World} {base : Nat} {e : TypeId} {size n : Nat} {v : Value} {xs : List Value} (h : w.ownsRow base e size v n xs) {k : Nat} (hk : v.ownBlock = some k) : base ≤ k ∧ k < w.heap.size := by
  rcases h.2 with ⟨h0, _⟩ | ⟨g, cap, cur, h0, h1, h2, _⟩
  · rw [h0] at hk; cases hk
  · rw [h0] at hk; cases hk; exact ⟨h1, lt_of_heap h2⟩
theorem row_form {w : World} {base : Nat} {e : TypeId} {size n : Nat} {v : Value} {xs : List Value} (h : w.ownsRow base e size v n xs) : ∃ X cap, v = .slice X n cap := by
  rcases h.2 with ⟨h0, h1⟩ | ⟨g, c, cur, h0, _⟩
  · exact ⟨none, 0, by rw [h0, h1]⟩
  · exact ⟨_, c, h0⟩
/-- append in a walk. -/
theorem wp_append_at {P : Program} (w : World) {ops : Array Oper} {rest : List Oper} {o : Oper} {a : Act} {Q : Exit → Act → World → Prop} (hgd : o.guard = none) (s x : Operand) (t : TypeId)
    (ho : o.op = .call { callee := .builtin .append, args := #[s, x], argTypes := #[t, t] })
    (base : Nat) (e : TypeId) (i : TypeInfo) (z : Value) (size bytes : Nat) (ht : P.underlying t = some (.slice e)) (hi : P.info? e = some i) (hz : i.zero = some z)
    (hsize : i.size = size) (hby : i.bytes = bytes) (hzs : z.cells.size = size) (hsz : 0 < size)
    (v : Value) (n : Nat) (xs : List Value) (hs : a.eval s = v) (hown : w.ownsRow base e size v n xs)
    (ad : Addr) (m c : Nat) (news : List Value) (hx : a.eval x = .slice (some ad) m c) (hl : news.length = m * size) (hnews : ∀ j u, news[j]? = some u → w.cell? (ad.add j) = some u) (h1 : ∀ u ∈ news, u.oneCell' = true)
    (h63 : n + m ≤ maxLen) (hbytes : (n + m) * bytes ≤ 140737488355328) (hbase : base ≤ w.heap.size)
    (h : ∀ v' w', w'.ownsRow base e size v' (n + m) (xs ++ news) → w.grownBy w' v.ownBlock → (v'.ownBlock = v.ownBlock ∨ v'.ownBlock = some w.heap.size) → wpList P ops Q rest (a.put o.dst v') w') : wpList P ops Q (o :: rest) a w := by
  refine wpList_plain hgd fun K' hK' => ?_
  obtain ⟨v', w', hr, h2, h3, _, h5⟩ := run_append_own_at (P := P) w base t o.type e i z size bytes ht hi hz hsize hby hzs hsz v n xs hown ad m c news hl hnews h1 h63 hbytes hbase
  unfold Oper.wp execOp
  simp only [ho, resolve, invoke, builtin, Sem.run_bind, Sem.run_pure, Result.andThen_ok, List.map_toArray, List.map_cons, List.map_nil, hs, hx, hr]
  exact hK' _ _ (h v' w' h2 h3 h5)
/-- append in a walk, of what may be nothing. -/
theorem wp_append_or {P : Program} (w : World) {ops : Array Oper} {rest : List Oper} {o : Oper} {a : Act} {Q : Exit → Act → World → Prop} (hgd : o.guard = none) (s x : Operand) (t : TypeId)
    (ho : o.op = .call { callee := .builtin .append, args := #[s, x], argTypes := #[t, t] })
    (base : Nat) (e : TypeId) (i : TypeInfo) (z : Value) (size bytes : Nat) (ht : P.underlying t = some (.slice e)) (hi : P.info? e = some i) (hz : i.zero = some z)
    (hsize : i.size = size) (hby : i.bytes = bytes) (hzs : z.cells.size = size) (hsz : 0 < size)
    (v : Value) (n : Nat) (xs : List Value) (hs : a.eval s = v) (hown : w.ownsRow base e size v n xs)
    (X : Option Addr) (m c : Nat) (news : List Value) (hx : a.eval x = .slice X m c) (hnil : X = none → m = 0 ∧ c = 0) (hl : news.length = m * size) (hnews : ∀ j u, news[j]? = some u → ∃ ad, X = some ad ∧ w.cell? (ad.add j) = some u) (h1 : ∀ u ∈ news, u.oneCell' = true)
    (h63 : n + m ≤ maxLen) (hbytes : (n + m) * bytes ≤ 140737488355328) (hbase : base ≤ w.heap.size)
    (h : ∀ v' w', w'.ownsRow base e size v' (n + m) (xs ++ news) → w.grownBy w' v.ownBlock → (v'.ownBlock = v.ownBlock ∨ v'.ownBlock = some w.heap.size) → wpList P ops Q rest (a.put o.dst v') w') : wpList P ops Q (o :: rest) a w := by
  cases X with
  | none =>
    obtain ⟨rfl, rfl⟩ := hnil rfl
    have : news = [] := List.eq_nil_of_length_eq_zero (by rw [hl, Nat.zero_mul])
    subst this
    exact wpList_append_own_none hgd s x t ho base e i size ht hi v n xs hs hown hx (h v w (by simpa using hown) ⟨rfl, rfl, rfl, Nat.le_refl _, fun _ _ _ => rfl⟩ (.inl rfl))
  | some ad =>
    exact wp_append_at w hgd s x t ho base e i z size bytes ht hi hz hsize hby hzs hsz v n xs hs hown ad m c news hx hl (fun j u hu => by
      obtain ⟨a2, h2, h3⟩ := hnews j u hu
      injection h2 with h2; subst h2; exact h3) h1 h63 hbytes hbase h
theorem row_bta {w : World} {base : Nat} {v : Value} {l : List UInt8} (h : w.ownsRow base 5 1 v l.length (byV l)) : BtA w v l := by
  rcases h.2 with ⟨h0, h1⟩ | ⟨g, cap, cur, h0, h1, h2, h3, h4, h5, h6⟩
  · have : l = [] := List.eq_nil_of_length_eq_zero h1
    subst this
    rw [h0]; exact BtA.nil _
  · refine ⟨_, cap, h0, h3, h4, fun j c hj => ⟨g, 0, rfl, ?_⟩⟩
    have hk := (List.getElem?_eq_some_iff.1 hj).1
    rw [Nat.zero_add, cell_of_row w g j cur _ _ h2]
    have := byV_at hj
    rw [← h6, List.getElem?_take] at this
    split at this
    · simpa using this
    · cases this
/-! ### FilesTrunc -/
/-- A round of the law FilesTrunc's: the bytes of the file, and the law's own. -/
structure TrI (T : FP) (W w : World) (a : Addr) (mv : Value) (d m : List UInt8) : Prop where
  gw : Gw W w
  row : w.ownsRow W.heap.size 5 1 mv m.length (byV m)
  ex : ∃ K : Nat → Prop, Fx T K w (.pointer (some a)) ⟨tw1, [d], [(0, 3)], fd1⟩ ∧ (∀ x, x < W.heap.size → K x) ∧ ∀ k, mv.ownBlock = some k → K k
theorem TrI.start {T : FP} (C : FilesC T) {W w w2 w3 : World} {a : Addr} {v0 v3 : Value} {d : List UInt8} {K : Nat → Prop} (M : Fx T K w (.pointer (some a)) ⟨tw1, [d], [(0, 3)], fd1⟩) (hK : ∀ x, x < W.heap.size → K x) (G : Gw W w) (o : Obj) (h2 : w2 = w.alloc o) (hv : v0.ownBlock = some w.heap.size)
    (own : w3.ownsRow W.heap.size 5 1 v3 d.length (byV d)) (gr : w2.grownBy w3 v0.ownBlock) (at_ : v3.ownBlock = v0.ownBlock ∨ v3.ownBlock = some w2.heap.size) : TrI T W w3 a v3 d d := by
  subst h2
  have GA := Gw.alloc w o
  have hs : (w.alloc o).heap.size = w.heap.size + 1 := size_alloc _ _
  refine ⟨⟨gr.os.trans (G.trans GA).os, rfl, gr.output.trans (G.trans GA).output, Nat.le_trans (G.trans GA).size gr.size, fun k hk => (gr.block k (Nat.lt_of_lt_of_le hk (G.trans GA).size) (fun e => ?_)).trans ((G.trans GA).block k hk)⟩, own, fun k => K k ∨ v3.ownBlock = some k, ?_, fun x hx => .inl (hK x hx), fun k hk => .inr hk⟩
  · rw [hv] at e
    have := G.size
    have : k = w.heap.size := Option.some.inj e
    omega
  · refine (M.box C o).turned C gr (fun k hk => ?_) (fun k hk => ?_)
    · rw [hv] at hk
      exact .inr (Option.some.inj hk).symm
    · rcases hk with hk | hk
      · exact .inl (.inl hk)
      · rcases at_ with q | q
        · rw [q, hv] at hk
          exact .inl (.inr (Option.some.inj hk).symm)
        · rw [q] at hk
          have := (row_lt own (by rw [q])).2
          have : (w.alloc o).heap.size = k := Option.some.inj hk
          exact .inr ⟨by omega, by omega⟩
/-- One more of the law's own. -/
theorem TrI.more {T : FP} (C : FilesC T) {W w w2 w3 : World} {a : Addr} {v0 v3 : Value} {d m m3 : List UInt8} (M : TrI T W w a v0 d m) (o : Obj) (h2 : w2 = w.alloc o)
    (own : w3.ownsRow W.heap.size 5 1 v3 m3.length (byV m3)) (gr : w2.grownBy w3 v0.ownBlock) (at_ : v3.ownBlock = v0.ownBlock ∨ v3.ownBlock = some w2.heap.size) : TrI T W w3 a v3 d m3 := by
  subst h2
  obtain ⟨K, h1, h2, h3⟩ := M.ex
  have GA := Gw.alloc w o
  refine ⟨⟨gr.os.trans (M.gw.trans GA).os, rfl, gr.output.trans (M.gw.trans GA).output, Nat.le_trans (M.gw.trans GA).size gr.size, fun k hk => (gr.block k (Nat.lt_of_lt_of_le hk (M.gw.trans GA).size) (fun e => ?_)).trans ((M.gw.trans GA).block k hk)⟩, own, fun k => K k ∨ v3.ownBlock = some k, ?_, fun x hx => .inl (h2 x hx), fun k hk => .inr hk⟩
  · have := (row_lt M.row e.symm).1
    omega
  · refine (h1.on C GA).turned C gr (fun k hk => h3 k hk) (fun k hk => ?_)
    rcases hk with hk | hk
    · exact .inl hk
    · rcases at_ with q | q
      · exact .inl (h3 k (by rw [← q]; exact hk))
      · rw [q] at hk
        have := (row_lt own (by rw [q])).2
        have : (w.alloc o).heap.size = k := Option.some.inj hk
        exact .inr ⟨by omega, by omega⟩
/-- What is done to the file system. -/
theorem TrI.next {T : FP} {W w w' : World} {a : Addr} {mv : Value} {d d' m : List UInt8} {K : Nat → Prop} (G : Gw W w) (row : w.ownsRow W.heap.size 5 1 mv m.length (byV m)) (h1 : ∀ x, x < W.heap.size → K x) (h2 : ∀ k, mv.ownBlock = some k → K k) (M : Fx T K w' (.pointer (some a)) ⟨tw1, [d'], [(0, 3)], fd1⟩) (S : Sm K w w') : TrI T W w' a mv d' m :=
  ⟨gw_sm G (S.less h1), own_same row (fun b hb => S.block b (h2 b hb)), K, M, h1, h2⟩

theorem cut_grow {d : List UInt8} {j n : Nat} (h : (d ++ List.replicate j (0 : UInt8)).length ≤ n ∨ j = 0) (hn : n ≤ (d ++ List.replicate j (0 : UInt8)).length) : (d ++ List.replicate j (0 : UInt8)).take n = cutL d n := by
  unfold cutL
  rcases h with h | h
  · have e : (d ++ List.replicate j (0 : UInt8)).length = n := by omega
    rw [List.take_of_length_le (by omega)]
    rw [List.length_append, List.length_replicate] at e
    rw [List.take_of_length_le (by omega), show n - d.length = j by omega]
  · subst h
    simp at hn ⊢
    omega
/-- A row cut short. -/
theorem row_cut {w : World} {base : Nat} {e : TypeId} {X : Option Addr} {n cap m : Nat} {xs : List Value} (h : w.ownsRow base e 1 (.slice X n cap) n xs) (hm : m ≤ n) : w.ownsRow base e 1 (.slice X m cap) m (xs.take m) := by
  have h1 := h.1
  refine ⟨by rw [List.length_take, h1]; omega, ?_⟩
  rcases h.2 with ⟨h0, h2⟩ | ⟨g, c, cur, h0, h2, h3, h4, h5, h6, h7⟩
  · injection h0 with e1 e2 e3
    subst e1 e3
    have : m = 0 := by omega
    subst this
    exact .inl ⟨rfl, rfl⟩
  · injection h0 with e1 e2 e3
    subst e1 e3
    refine .inr ⟨g, cap, cur, rfl, h2, h3, by omega, h5, h6, ?_⟩
    rw [← h7, List.take_take, Nat.mul_one, Nat.mul_one, Nat.min_eq_left hm]
end Go.Proofs.Ytckoapfmfpmdgaa
