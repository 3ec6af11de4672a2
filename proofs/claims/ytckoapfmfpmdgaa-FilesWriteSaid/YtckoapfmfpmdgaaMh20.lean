/-
  Parts of the proof, joined: FileX, FileOp, FileWr.
-/
import Derived.Test.YtckoapfmfpmdgaaMh19
import Derived.Test.YtckoapfmfpmdgaaMh17
import Derived.Deep.Strs
import Derived.Test.YtckoapfmfpmdgaaMh05

namespace Go.Proofs.Ytckoapfmfpmdgaa
open Go.ChangeShapes Go.WideShapes Go.ChangeAt Go.RowKit Go.Joins
set_option linter.unusedVariables false
set_option linter.unusedSimpArgs false

abbrev eabC : Array Value := #[.string ⟨#[97]⟩, .bool false, .int .i64 0, .string ⟨#[98]⟩, .bool false, .int .i64 0]
theorem ltb : tb.nx ≤ 3 := by decide
theorem lta : ta.nx ≤ 3 := by decide
theorem ltab : tab.nx ≤ 3 := by decide
theorem lt3 (l : List Itm) : (St.mk l 3).nx ≤ 3 := Int.le_refl 3
theorem few1 {t : St} {d : List (List UInt8)} {x : Nat × Nat} {fd : List Int} (h : t.nx ≤ 3) : Few ⟨t, d, [x], fd⟩ := ⟨by show t.nx ≤ _; omega, by show 1 ≤ _; decide⟩
theorem few2 {t : St} {d : List (List UInt8)} {x y : Nat × Nat} {fd : List Int} (h : t.nx ≤ 3) : Few ⟨t, d, [x, y], fd⟩ := ⟨by show t.nx ≤ _; omega, by show 2 ≤ _; decide⟩
theorem few3 {t : St} {d : List (List UInt8)} {x y z : Nat × Nat} {fd : List Int} (h : t.nx ≤ 3) : Few ⟨t, d, [x, y, z], fd⟩ := ⟨by show t.nx ≤ _; omega, by show 3 ≤ _; decide⟩
theorem bta_form {w : World} {x : Value} {l : List UInt8} (h : BtA w x l) : ∃ A cap, x = .slice A l.length cap := by
  obtain ⟨A, cap, rfl, _⟩ := h
  exact ⟨A, cap, rfl⟩
/-- A slice of one byte. -/
theorem bta_one {w : World} {x : Value} {c : UInt8} (h : BtA w x [c]) : ∃ g off cap, x = .slice (some ⟨g, off, none⟩) 1 cap ∧ 1 ≤ cap ∧ w.cell? ⟨g, off, none⟩ = some (.int .u8 (c.toNat : Int)) := by
  obtain ⟨A, cap, rfl, h1, h2, h3⟩ := h
  obtain ⟨g, off, rfl, hc⟩ := h3 0 c rfl
  exact ⟨g, off, cap, rfl, h1, hc⟩
section
variable {T : FP} (C : FilesC T)
include C
theorem lv_start {w : World} {v : Value} {b : List UInt8} (hv : BtA w v b) (h8 : b.length ≤ 8) : Calls Try.prog 30 #[.slice (some ⟨w.heap.size, 0, none⟩) 2 2, .slice (some ⟨w.heap.size + 1 + 1, 0, none⟩) 2 2] (((w.alloc (.cells eabC 44)).alloc (.cells #[.int .u8 1] 5)).alloc (.cells #[v, .slice (some ⟨w.heap.size + 1, 0, none⟩) 1 1] 52)) fun e w' =>
    ∃ a, e = .returned (.tuple #[.pointer (some a), .int .i64 0]) ∧ Fx T (fun k => k < w.heap.size) w' (.pointer (some a)) ⟨tab, [b, [1]], [], [-1, -1, -1, -1]⟩ ∧ Gw w w' := by
  have G1 := Gw.alloc w (.cells eabC 44)
  have G2 := Gw.alloc (w.alloc (.cells eabC 44)) (.cells #[.int .u8 1] 5)
  have G3 := Gw.alloc ((w.alloc (.cells eabC 44)).alloc (.cells #[.int .u8 1] 5)) (.cells #[v, .slice (some ⟨w.heap.size + 1, 0, none⟩) 1 1] 52)
  have hx := ((ent_row (es := eab) (Has.new w 44 eabC) (by rfl)).on G2).on G3
  have hb : BtA _ _ _ := bta_new (w.alloc (.cells eabC 44)) [1] (by decide)
  rw [size_alloc] at hb
  have hb' := hb.on G3
  have hv' := ((hv.on G1).on G2).on G3
  have hy := dat_row (xs := [v, .slice (some ⟨w.heap.size + 1, 0, none⟩) 1 1]) (ds := [b, [1]]) (Has.new ((w.alloc (.cells eabC 44)).alloc (.cells #[.int .u8 1] 5)) 52 _) rfl (fun i x l h1 h2 => by
    match i, h1, h2 with
    | 0, h1, h2 => cases h1; cases h2; exact hv'
    | 1, h1, h2 => cases h1; cases h2; exact hb'
    | i + 2, h1, h2 => simp at h1)
  rw [size_alloc, size_alloc] at hy
  refine (x_new C hx hy (ent_sm (by decide +kernel)) (by decide) (by show 2 ≤ _; decide) (lv_new h8)).mono fun e w' ⟨a, h1, h2, h3⟩ => ⟨a, h1, h2.less (fun j hj => ?_), ((G1.trans G2).trans G3).trans h3⟩
  exact Nat.lt_of_lt_of_le hj ((G1.trans G2).trans G3).size
end
set_option maxRecDepth 100000 in
set_option maxHeartbeats 16000000 in
theorem live_drop {T : FP} (C : FilesC T) {W : World} {A : Option Addr} {b : List UInt8} {cap : Nat} (hv : BtA W (.slice A b.length cap) b) (h1 : b ≠ []) (h8 : b.length ≤ 8) : Calls Try.prog 13 #[.slice A b.length cap, .bool false] W fun e W' => e = .returned (.bool true) ∧ Gw W W' := by
  have hn : ∀ b w, (Op.unary .not (.bool b)).run Try.prog w = .ok (.bool (!b)) w := fun _ _ => rfl
  have AW := awake_files C W
  have B1 := Lib.hid (fun w : World => (bta_new w [99] (by decide) : BtA (w.alloc (.cells #[.int .u8 99] 5)) (.slice (some ⟨w.heap.size, 0, none⟩) 1 1) [99]))
  have n0 : ¬ (b.length : Int) = 0 := fun e => h1 (List.eq_nil_of_length_eq_zero (by omega))
  have n8 : ¬ (8 : Int) < b.length := by omega
  have m8 : (b.length : Int) ≤ 8 := by omega
  have m0 : (0 : Int) ≤ b.length := by omega
  go_enter Try.func13, Try.ntmps13
  go_wp2_with (first
    | (go_at_call 28; with_reducible refine AW.mono ?_; rintro e wa ⟨rfl, Ga⟩; have hva := hv.on Ga; have Ga := Lib.hid Ga; have N1 := lv_start C hva h8; clear hva)
    | (go_at_call 30; refine N1.mono ?_; rintro e w0 ⟨a, rfl, M0, Gb⟩; clear N1; obtain ⟨K, hK⟩ : ∃ K : Nat → Prop, K = fun k => k < wa.heap.size := ⟨_, rfl⟩; rw [← hK] at M0; have Kb := Lib.hid (show ∀ x, x < W.heap.size → K x from (by rw [hK]; exact fun x hx => Nat.lt_of_lt_of_le hx Ga.out.size)); clear hK; have G0 := Lib.hid (Ga.out.trans Gb); have M0 := Lib.hid M0; have A1 : Calls Try.prog 33 #[.pointer (some a), .string ⟨#[97]⟩] w0 _ := x_open C M0.out ⟨#[97]⟩ (by decide) (lv_open h8) (few1 ltab))
    | (go_at_call 33; with_reducible refine A1.mono ?_; clear A1; rintro e w1 ⟨rfl, M1, S1⟩; have G1 := Lib.hid (gw_sm G0.out (S1.less Kb.out)); have M1 := Lib.hid M1; clear S1; have A2 : Calls Try.prog 39 #[.pointer (some a), .string ⟨#[97]⟩] w1 _ := x_unlink C M1.out ⟨#[97]⟩ (by decide) lv_drop (few1 ltb))
    | (go_at_call 39; with_reducible refine A2.mono ?_; clear A2; rintro e w2 ⟨rfl, M2, S2⟩; have G2 := Lib.hid (gw_sm G1.out (S2.less Kb.out)); have M2 := Lib.hid M2; clear S2; have A3 : Calls Try.prog 35 #[.pointer (some a), .int .u16 0, .int .u16 9] w2 _ := x_read C M2.out 0 9 (by decide) (by decide) (lv_read h1 h8 tb) (few1 ltb))
    | (go_at_call 35; with_reducible refine A3.mono ?_; clear A3; rintro e w3 ⟨x3, rfl, M3, S3, X3⟩; have G3 := Lib.hid (gw_sm G2.out (S3.less Kb.out)); obtain ⟨K3, hK⟩ : ∃ K' : Nat → Prop, K' = (fun j => K j ∨ Bk x3 j) := ⟨_, rfl⟩; rw [← hK] at M3; have Ka3 := Lib.hid (show ∀ x, x < W.heap.size → K3 x from (by rw [hK]; exact fun x hx => .inl (Kb.out x hx))); have Kx3 := Lib.hid (show ∀ j, Bk x3 j → K3 j from (by rw [hK]; exact fun j hj => .inr hj)); have X3 := Lib.hid X3; clear hK; have M3 := Lib.hid M3; clear S3; have A4 : Calls Try.prog 36 #[.pointer (some a), .int .u16 0, .int .u16 0] w3 _ := x_seek C M3.out 0 0 (by decide) (by decide) (lv_seek tb [b, [1]] b.length) (few1 ltb))
    | (go_at_call 36; with_reducible refine A4.mono ?_; clear A4; rintro e w4 ⟨rfl, M4, S4⟩; have G4 := Lib.hid (gw_sm G3.out (S4.less Ka3.out)); have X3 := Lib.hid (X3.out.sm Kx3.out S4); have M4 := Lib.hid M4; clear S4; have A5 : Calls Try.prog 37 #[.pointer (some a), .int .u16 0, .slice (some ⟨w4.heap.size, 0, none⟩) 1 1] (w4.alloc (.cells #[.int .u8 99] 5)) _ := x_write C (M4.out.on C (Gw.alloc _ (.cells #[.int .u8 99] 5))) 0 _ [99] (by decide) (B1.out _) (by decide) (lv_write h1 h8 tb) (few1 ltb))
    | (go_at_call 37; with_reducible refine A5.mono ?_; clear A5; rintro e w5 ⟨rfl, M5, S5⟩; have S5 := (M4.out.m.sm (Gw.alloc _ (.cells #[.int .u8 99] 5))).trans S5; have G5 := Lib.hid (gw_sm G4.out (S5.less Ka3.out)); have X3 := Lib.hid (X3.out.sm Kx3.out S5); have M5 := Lib.hid M5; clear S5; have A6 : Calls Try.prog 36 #[.pointer (some a), .int .u16 0, .int .u16 0] w5 _ := x_seek C M5.out 0 0 (by decide) (by decide) (lv_seek tb [99 :: b.tail, [1]] 1) (few1 ltb))
    | (go_at_call 36; with_reducible refine A6.mono ?_; clear A6; rintro e w6 ⟨rfl, M6, S6⟩; have G6 := Lib.hid (gw_sm G5.out (S6.less Ka3.out)); have X3 := Lib.hid (X3.out.sm Kx3.out S6); have M6 := Lib.hid M6; clear S6; have A7 : Calls Try.prog 35 #[.pointer (some a), .int .u16 0, .int .u16 1] w6 _ := x_read C M6.out 0 1 (by decide) (by decide) (lv_one tb b.tail) (few1 ltb))
    | (go_at_call 35; with_reducible refine A7.mono ?_; clear A7; rintro e w7 ⟨x7, rfl, M7, S7, X7⟩; have G7 := Lib.hid (gw_sm G6.out (S7.less Ka3.out)); have X3 := Lib.hid (X3.out.sm Kx3.out S7); obtain ⟨K7, hK⟩ : ∃ K' : Nat → Prop, K' = (fun j => K3 j ∨ Bk x7 j) := ⟨_, rfl⟩; rw [← hK] at M7; have Ka7 := Lib.hid (show ∀ x, x < W.heap.size → K7 x from (by rw [hK]; exact fun x hx => .inl (Ka3.out x hx))); have Kx3 := Lib.hid (show ∀ j, Bk x3 j → K7 j from (by rw [hK]; exact fun j hj => .inl (Kx3.out j hj))); have Kx7 := Lib.hid (show ∀ j, Bk x7 j → K7 j from (by rw [hK]; exact fun j hj => .inr hj)); have X7 := Lib.hid X7; clear hK; have M7 := Lib.hid M7; clear S7; have A8 : Calls Try.prog 33 #[.pointer (some a), .string ⟨#[97]⟩] w7 _ := x_open C M7.out ⟨#[97]⟩ (by decide) (lv_made (99 :: b.tail)) (few2 (lt3 _)))
    | (go_at_call 33; with_reducible refine A8.mono ?_; clear A8; rintro e w8 ⟨rfl, M8, S8⟩; have G8 := Lib.hid (gw_sm G7.out (S8.less Ka7.out)); have X3 := Lib.hid (X3.out.sm Kx3.out S8); have X7 := Lib.hid (X7.out.sm Kx7.out S8); have M8 := Lib.hid M8; clear S8; have A9 : Calls Try.prog 35 #[.pointer (some a), .int .u16 1, .int .u16 9] w8 _ := x_read C M8.out 1 9 (by decide) (by decide) (lv_ru (99 :: b.tail) _) (few2 (lt3 _)))
    | (go_at_call 35; with_reducible refine A9.mono ?_; clear A9; rintro e w9 ⟨x9, rfl, M9, S9, X9⟩; have G9 := Lib.hid (gw_sm G8.out (S9.less Ka7.out)); have X3 := Lib.hid (X3.out.sm Kx3.out S9); have X7 := Lib.hid (X7.out.sm Kx7.out S9); obtain ⟨K9, hK⟩ : ∃ K' : Nat → Prop, K' = (fun j => K7 j ∨ Bk x9 j) := ⟨_, rfl⟩; rw [← hK] at M9; have Ka9 := Lib.hid (show ∀ x, x < W.heap.size → K9 x from (by rw [hK]; exact fun x hx => .inl (Ka7.out x hx))); have Kx3 := Lib.hid (show ∀ j, Bk x3 j → K9 j from (by rw [hK]; exact fun j hj => .inl (Kx3.out j hj))); have Kx7 := Lib.hid (show ∀ j, Bk x7 j → K9 j from (by rw [hK]; exact fun j hj => .inl (Kx7.out j hj))); have Kx9 := Lib.hid (show ∀ j, Bk x9 j → K9 j from (by rw [hK]; exact fun j hj => .inr hj)); have X9 := Lib.hid X9; clear hK; have c3 := conv_bta X3.out; have c0 := conv_bta (hv.on G9.out); obtain ⟨g7, o7, c7, e7, l7, d7⟩ := bta_one X7.out; obtain ⟨A3, p3, e3⟩ := bta_form X3.out; subst e3; subst e7; have M9 := Lib.hid M9; clear S9; have A10 : Calls Try.prog 40 #[.pointer (some a), .int .u16 1] w9 _ := x_size C M9.out 1 (by decide) (lv_su (99 :: b.tail) _))
    | (go_at_call 40; with_reducible refine A10.mono ?_; clear A10; rintro e w10 ⟨rfl, M10, S10⟩; have G10 := Lib.hid (gw_sm G9.out (S10.less Ka9.out)); have X3 := Lib.hid (X3.out.sm Kx3.out S10); have X7 := Lib.hid (X7.out.sm Kx7.out S10); have X9 := Lib.hid (X9.out.sm Kx9.out S10); have M10 := Lib.hid M10; clear S10))
  all_goals (go_ret; first | exact ⟨rfl, G10.out⟩ | exact ⟨rfl, Ga.out⟩)
set_option maxRecDepth 100000 in
set_option maxHeartbeats 16000000 in
theorem live_move {T : FP} (C : FilesC T) {W : World} {A : Option Addr} {b : List UInt8} {cap : Nat} (hv : BtA W (.slice A b.length cap) b) (h1 : b ≠ []) (h8 : b.length ≤ 8) : Calls Try.prog 13 #[.slice A b.length cap, .bool true] W fun e W' => e = .returned (.bool true) ∧ Gw W W' := by
  have hn : ∀ b w, (Op.unary .not (.bool b)).run Try.prog w = .ok (.bool (!b)) w := fun _ _ => rfl
  have AW := awake_files C W
  have B1 := Lib.hid (fun w : World => (bta_new w [99] (by decide) : BtA (w.alloc (.cells #[.int .u8 99] 5)) (.slice (some ⟨w.heap.size, 0, none⟩) 1 1) [99]))
  have n0 : ¬ (b.length : Int) = 0 := fun e => h1 (List.eq_nil_of_length_eq_zero (by omega))
  have n8 : ¬ (8 : Int) < b.length := by omega
  have m8 : (b.length : Int) ≤ 8 := by omega
  have m0 : (0 : Int) ≤ b.length := by omega
  go_enter Try.func13, Try.ntmps13
  go_wp2_with (first
    | (go_at_call 28; with_reducible refine AW.mono ?_; rintro e wa ⟨rfl, Ga⟩; have hva := hv.on Ga; have Ga := Lib.hid Ga; have N1 := lv_start C hva h8; clear hva)
    | (go_at_call 30; refine N1.mono ?_; rintro e w0 ⟨a, rfl, M0, Gb⟩; clear N1; obtain ⟨K, hK⟩ : ∃ K : Nat → Prop, K = fun k => k < wa.heap.size := ⟨_, rfl⟩; rw [← hK] at M0; have Kb := Lib.hid (show ∀ x, x < W.heap.size → K x from (by rw [hK]; exact fun x hx => Nat.lt_of_lt_of_le hx Ga.out.size)); clear hK; have G0 := Lib.hid (Ga.out.trans Gb); have M0 := Lib.hid M0; have A1 : Calls Try.prog 33 #[.pointer (some a), .string ⟨#[97]⟩] w0 _ := x_open C M0.out ⟨#[97]⟩ (by decide) (lv_open h8) (few1 ltab))
    | (go_at_call 33; with_reducible refine A1.mono ?_; clear A1; rintro e w1 ⟨rfl, M1, S1⟩; have G1 := Lib.hid (gw_sm G0.out (S1.less Kb.out)); have M1 := Lib.hid M1; clear S1; have A2 : Calls Try.prog 43 #[.pointer (some a), .string ⟨#[98]⟩, .string ⟨#[97]⟩] w1 _ := x_rename C M1.out ⟨#[98]⟩ ⟨#[97]⟩ (by decide) (by decide) lv_move (few1 lta))
    | (go_at_call 43; with_reducible refine A2.mono ?_; clear A2; rintro e w2 ⟨rfl, M2, S2⟩; have G2 := Lib.hid (gw_sm G1.out (S2.less Kb.out)); have M2 := Lib.hid M2; clear S2; have A3 : Calls Try.prog 35 #[.pointer (some a), .int .u16 0, .int .u16 9] w2 _ := x_read C M2.out 0 9 (by decide) (by decide) (lv_read h1 h8 ta) (few1 lta))
    | (go_at_call 35; with_reducible refine A3.mono ?_; clear A3; rintro e w3 ⟨x3, rfl, M3, S3, X3⟩; have G3 := Lib.hid (gw_sm G2.out (S3.less Kb.out)); obtain ⟨K3, hK⟩ : ∃ K' : Nat → Prop, K' = (fun j => K j ∨ Bk x3 j) := ⟨_, rfl⟩; rw [← hK] at M3; have Ka3 := Lib.hid (show ∀ x, x < W.heap.size → K3 x from (by rw [hK]; exact fun x hx => .inl (Kb.out x hx))); have Kx3 := Lib.hid (show ∀ j, Bk x3 j → K3 j from (by rw [hK]; exact fun j hj => .inr hj)); have X3 := Lib.hid X3; clear hK; have M3 := Lib.hid M3; clear S3; have A4 : Calls Try.prog 36 #[.pointer (some a), .int .u16 0, .int .u16 0] w3 _ := x_seek C M3.out 0 0 (by decide) (by decide) (lv_seek ta [b, [1]] b.length) (few1 lta))
    | (go_at_call 36; with_reducible refine A4.mono ?_; clear A4; rintro e w4 ⟨rfl, M4, S4⟩; have G4 := Lib.hid (gw_sm G3.out (S4.less Ka3.out)); have X3 := Lib.hid (X3.out.sm Kx3.out S4); have M4 := Lib.hid M4; clear S4; have A5 : Calls Try.prog 37 #[.pointer (some a), .int .u16 0, .slice (some ⟨w4.heap.size, 0, none⟩) 1 1] (w4.alloc (.cells #[.int .u8 99] 5)) _ := x_write C (M4.out.on C (Gw.alloc _ (.cells #[.int .u8 99] 5))) 0 _ [99] (by decide) (B1.out _) (by decide) (lv_write h1 h8 ta) (few1 lta))
    | (go_at_call 37; with_reducible refine A5.mono ?_; clear A5; rintro e w5 ⟨rfl, M5, S5⟩; have S5 := (M4.out.m.sm (Gw.alloc _ (.cells #[.int .u8 99] 5))).trans S5; have G5 := Lib.hid (gw_sm G4.out (S5.less Ka3.out)); have X3 := Lib.hid (X3.out.sm Kx3.out S5); have M5 := Lib.hid M5; clear S5; have A6 : Calls Try.prog 36 #[.pointer (some a), .int .u16 0, .int .u16 0] w5 _ := x_seek C M5.out 0 0 (by decide) (by decide) (lv_seek ta [99 :: b.tail, [1]] 1) (few1 lta))
    | (go_at_call 36; with_reducible refine A6.mono ?_; clear A6; rintro e w6 ⟨rfl, M6, S6⟩; have G6 := Lib.hid (gw_sm G5.out (S6.less Ka3.out)); have X3 := Lib.hid (X3.out.sm Kx3.out S6); have M6 := Lib.hid M6; clear S6; have A7 : Calls Try.prog 35 #[.pointer (some a), .int .u16 0, .int .u16 1] w6 _ := x_read C M6.out 0 1 (by decide) (by decide) (lv_one ta b.tail) (few1 lta))
    | (go_at_call 35; with_reducible refine A7.mono ?_; clear A7; rintro e w7 ⟨x7, rfl, M7, S7, X7⟩; have G7 := Lib.hid (gw_sm G6.out (S7.less Ka3.out)); have X3 := Lib.hid (X3.out.sm Kx3.out S7); obtain ⟨K7, hK⟩ : ∃ K' : Nat → Prop, K' = (fun j => K3 j ∨ Bk x7 j) := ⟨_, rfl⟩; rw [← hK] at M7; have Ka7 := Lib.hid (show ∀ x, x < W.heap.size → K7 x from (by rw [hK]; exact fun x hx => .inl (Ka3.out x hx))); have Kx3 := Lib.hid (show ∀ j, Bk x3 j → K7 j from (by rw [hK]; exact fun j hj => .inl (Kx3.out j hj))); have Kx7 := Lib.hid (show ∀ j, Bk x7 j → K7 j from (by rw [hK]; exact fun j hj => .inr hj)); have X7 := Lib.hid X7; clear hK; have M7 := Lib.hid M7; clear S7; have A8 : Calls Try.prog 33 #[.pointer (some a), .string ⟨#[97]⟩] w7 _ := x_open C M7.out ⟨#[97]⟩ (by decide) (lv_again (99 :: b.tail)) (few2 lta))
    | (go_at_call 33; with_reducible refine A8.mono ?_; clear A8; rintro e w8 ⟨rfl, M8, S8⟩; have G8 := Lib.hid (gw_sm G7.out (S8.less Ka7.out)); have X3 := Lib.hid (X3.out.sm Kx3.out S8); have X7 := Lib.hid (X7.out.sm Kx7.out S8); have M8 := Lib.hid M8; clear S8; have A9 : Calls Try.prog 35 #[.pointer (some a), .int .u16 1, .int .u16 9] w8 _ := x_read C M8.out 1 9 (by decide) (by decide) (lv_rm (99 :: b.tail)) (few2 lta))
    | (go_at_call 35; with_reducible refine A9.mono ?_; clear A9; rintro e w9 ⟨x9, rfl, M9, S9, X9⟩; have G9 := Lib.hid (gw_sm G8.out (S9.less Ka7.out)); have X3 := Lib.hid (X3.out.sm Kx3.out S9); have X7 := Lib.hid (X7.out.sm Kx7.out S9); obtain ⟨K9, hK⟩ : ∃ K' : Nat → Prop, K' = (fun j => K7 j ∨ Bk x9 j) := ⟨_, rfl⟩; rw [← hK] at M9; have Ka9 := Lib.hid (show ∀ x, x < W.heap.size → K9 x from (by rw [hK]; exact fun x hx => .inl (Ka7.out x hx))); have Kx3 := Lib.hid (show ∀ j, Bk x3 j → K9 j from (by rw [hK]; exact fun j hj => .inl (Kx3.out j hj))); have Kx7 := Lib.hid (show ∀ j, Bk x7 j → K9 j from (by rw [hK]; exact fun j hj => .inl (Kx7.out j hj))); have Kx9 := Lib.hid (show ∀ j, Bk x9 j → K9 j from (by rw [hK]; exact fun j hj => .inr hj)); have X9 := Lib.hid X9; clear hK; have c3 := conv_bta X3.out; have c0 := conv_bta (hv.on G9.out); obtain ⟨g7, o7, c7, e7, l7, d7⟩ := bta_one X7.out; obtain ⟨g9, o9, c9, e9, l9, d9⟩ := bta_one X9.out; obtain ⟨A3, p3, e3⟩ := bta_form X3.out; subst e3; subst e7; subst e9; have M9 := Lib.hid M9; clear S9; have A10 : Calls Try.prog 33 #[.pointer (some a), .string ⟨#[98]⟩] w9 _ := x_open C M9.out ⟨#[98]⟩ (by decide) (lv_b (99 :: b.tail)) (few3 (lt3 _)))
    | (go_at_call 33; with_reducible refine A10.mono ?_; clear A10; rintro e w10 ⟨rfl, M10, S10⟩; have G10 := Lib.hid (gw_sm G9.out (S10.less Ka9.out)); have X3 := Lib.hid (X3.out.sm Kx3.out S10); have X7 := Lib.hid (X7.out.sm Kx7.out S10); have X9 := Lib.hid (X9.out.sm Kx9.out S10); have M10 := Lib.hid M10; clear S10; have A11 : Calls Try.prog 40 #[.pointer (some a), .int .u16 2] w10 _ := x_size C M10.out 2 (by decide) (lv_sm (99 :: b.tail) _))
    | (go_at_call 40; with_reducible refine A11.mono ?_; clear A11; rintro e w11 ⟨rfl, M11, S11⟩; have G11 := Lib.hid (gw_sm G10.out (S11.less Ka9.out)); have X3 := Lib.hid (X3.out.sm Kx3.out S11); have X7 := Lib.hid (X7.out.sm Kx7.out S11); have X9 := Lib.hid (X9.out.sm Kx9.out S11); have M11 := Lib.hid M11; clear S11))
  all_goals (go_ret; first | exact ⟨rfl, G11.out⟩ | exact ⟨rfl, Ga.out⟩)
set_option maxRecDepth 100000 in
set_option maxHeartbeats 4000000 in
theorem live_else {T : FP} (C : FilesC T) {W : World} {A : Option Addr} {n : Nat} {cap : Nat} {mv : Bool} (h : n = 0 ∨ 8 < n) : Calls Try.prog 13 #[.slice A n cap, .bool mv] W fun e W' => e = .returned (.bool true) ∧ Gw W W' := by
  have hn : ∀ b w, (Op.unary .not (.bool b)).run Try.prog w = .ok (.bool (!b)) w := fun _ _ => rfl
  have AW := awake_files C W
  by_cases h0 : n = 0
  · subst h0
    go_enter Try.func13, Try.ntmps13
    go_wp2_with (go_at_call 28; with_reducible refine AW.mono ?_; rintro e wa ⟨rfl, Ga⟩)
    go_ret
    exact ⟨rfl, Ga⟩
  · have n0 : ((n : Int) == 0) = false := by simp; omega
    have n8 : (8 : Int) < n := by omega
    go_enter Try.func13, Try.ntmps13
    go_wp2_with (go_at_call 28; with_reducible refine AW.mono ?_; rintro e wa ⟨rfl, Ga⟩)
    go_ret
    exact ⟨rfl, Ga⟩
theorem live_walk {T : FP} (C : FilesC T) {W : World} {v : Value} {b : List UInt8} (hv : BtA W v b) (mv : Bool) : Calls Try.prog 13 #[v, .bool mv] W fun e W' => e = .returned (.bool true) ∧ Gw W W' := by
  obtain ⟨A, cap, rfl⟩ := bta_form hv
  by_cases h1 : b = []
  · exact live_else C (.inl (by rw [h1]; rfl))
  · by_cases h8 : b.length ≤ 8
    · cases mv with
      | false => exact live_drop C hv h1 h8
      | true => exact live_move C hv h1 h8
    · exact live_else C (.inr (by omega))
end Go.Proofs.Ytckoapfmfpmdgaa

namespace Go.Proofs.Ytckoapfmfpmdgaa
open Go.ChangeShapes Go.WideShapes Go.ChangeAt Go.RowKit Go.Joins
set_option linter.unusedVariables false

section
variable {H : Type} {enc : TypeId × Value → H} {W : World}
/-- Bytes that lie: as numbers, with what is said of nil. -/
def BytsN (W : World) (v : Value) : Prop := ∃ (A : Option Addr) (l : List Nat) (cap : Nat), v = .slice A l.length cap ∧ l.length ≤ cap ∧ cap ≤ 9223372036854775807 ∧ (A = none → cap = 0) ∧ ByIn W A l
def BtZ (W : World) (v : Value) (l : List UInt8) : Prop := BtA W v l ∧ ∀ n c, v = .slice none n c → n = 0 ∧ c = 0
set_option maxRecDepth 100000 in
theorem bytsn_trod {n : Nat} {v : Value} {x : DataW H × List MemPlace} (hf : DataW.trod enc Try.prog W 0 (fun _ => true) true n 52 [v] = some x) : BytsN W v := by
  obtain ⟨A, l, cap, e, h1, h2, h0, h3⟩ := slice_open (fun (z : Nat) cs => cs = [.int .u8 (z : Int)] ∧ z ≤ 255) Try.underlying52 cellsByte (by decide) (fun n cs x hx => by
    obtain ⟨z, e, _, w⟩ := DataW.trod_int Try.underlying5 hx
    have := bounds_u8 w
    exact ⟨by rw [e]; rfl, z.toNat, by rw [e]; congr 2; omega, by omega⟩) (v := v) hf
  refine ⟨A, l, cap, e, h1, h2, h0, fun i z hz => ?_⟩
  obtain ⟨cs, ⟨rfl, hz255⟩, _, g, off, hA, hg, hc⟩ := h3 i z hz
  have := hc 0 _ rfl
  rw [Nat.mul_one, Nat.add_zero] at this
  exact ⟨g, off, hA, hg, this, hz255⟩
set_option maxRecDepth 100000 in
theorem bytsn_open {base : Nat} {v : Value} {d : DataW H} {p : List MemPlace} (hok : Value.okWide Try.prog W .any base 52 v) (h : DataW.Trod enc Try.prog W 0 (fun _ => true) true 52 v d p) : BytsN W v := by
  obtain ⟨a0, len0, cap0, rfl⟩ := okWide_slice Try.underlying52 hok
  obtain ⟨fuel, hf⟩ := h
  exact bytsn_trod (v := .slice a0 len0 cap0) hf
set_option maxRecDepth 100000 in
theorem BytsN.bta {v : Value} (h : BytsN W v) : ∃ l, BtZ W v l := by
  obtain ⟨A, l, cap, rfl, h1, h2, h0, h3⟩ := h
  refine ⟨l.map UInt8.ofNat, ⟨A, cap, by rw [List.length_map], by rw [List.length_map]; exact h1, h2, fun j c hc => ?_⟩, fun n c e => ?_⟩
  · rw [List.getElem?_map] at hc
    cases hz : l[j]? with
    | none => rw [hz] at hc; cases hc
    | some z =>
      rw [hz] at hc
      cases hc
      obtain ⟨g, off, hA, _, hw, h255⟩ := h3 j z hz
      refine ⟨g, off, hA, ?_⟩
      have : (UInt8.ofNat z).toNat = z := by simp; omega
      rw [this]
      exact hw
  · injection e with e1 e2 e3
    have hc0 := h0 e1
    omega
end
end Go.Proofs.Ytckoapfmfpmdgaa

namespace Go.Proofs.Ytckoapfmfpmdgaa
open Go.ChangeShapes Go.WideShapes Go.ChangeAt Go.RowKit Go.Joins
set_option linter.unusedVariables false
set_option linter.unusedSimpArgs false

def tw1 : St := ⟨[⟨[97], false, 0⟩], 1⟩
def ew : List Ent := [([97], false)]
theorem ltw1 : tw1.nx ≤ 3 := by decide
section
variable {b d : List UInt8}
theorem wr_new (h8 : b.length ≤ 8) : newF ew [b] = .inr ⟨tw1, [b], [], [-1, -1, -1, -1]⟩ := by
  have ht : newT ew = some tw1 := by
    have : (match newT ew with | some s => decide (s = tw1) | none => false) = true := by decide +kernel
    cases h : newT ew with
    | none => rw [h] at this; cases this
    | some s => rw [h] at this; rw [of_decide_eq_true this]
  refine newF_ok ht (k := 1) (a := [b]) ?_ rfl
  show fillTo ew [b] 1 = _
  have n8 : ¬ 8 < b.length := by omega
  simp [fillTo, ew, n8]
theorem wr_find : findT tw1.l [97] = (0, false, 0) := by decide +kernel
theorem wr_open (h8 : b.length ≤ 8) : openF ⟨tw1, [b], [], [-1, -1, -1, -1]⟩ [97] = (0, ⟨tw1, [b], [(0, 0)], fd1⟩) := by
  have e1 : nameB [97] = true := by decide +kernel
  have e3 : abv tw1.l [97] = 0 := by decide +kernel
  unfold openF
  rw [if_pos e1]
  simp only [wr_find, e3]
  rfl
theorem wr_seek (t : St) (x k : Nat) (hk : k ≤ 255) (ds : List (List UInt8)) : seekF ⟨t, ds, [(0, x)], fd1⟩ 0 k = ((k : Int), ⟨t, ds, [(0, k)], fd1⟩) := by
  unfold seekF
  show (if 255 < k then _ else _) = _
  rw [if_neg (by omega)]
  rfl
theorem wr_data (o : List (Nat × Nat)) (fd : List Int) : bytesF ⟨tw1, [d], o, fd⟩ [97] = (d, 0) := by
  unfold bytesF
  simp only [wr_find]
  rfl
theorem wr_size (t : St) (x : Nat) : sizeF ⟨t, [d], [(0, x)], fd1⟩ 0 = d.length := rfl
theorem wr_nothing (t : St) (k : Nat) : writeF ⟨t, [d], [(0, k)], fd1⟩ 0 [] = (0, ⟨t, [d], [(0, k)], fd1⟩) := rfl
theorem wr_full (t : St) (k : Nat) (h0 : b ≠ []) (hk : 8 ≤ k) : writeF ⟨t, [d], [(0, k)], fd1⟩ 0 b = (65308, ⟨t, [d], [(0, k)], fd1⟩) := by
  unfold writeF
  show (if b = [] then _ else if 8 ≤ k then _ else _) = _
  rw [if_neg h0, if_pos hk]
theorem wr_write (t : St) (k : Nat) (h0 : b ≠ []) (hk : k < 8) : writeF ⟨t, [d], [(0, k)], fd1⟩ 0 b = (((min b.length (8 - k) : Nat) : Int), ⟨t, [putL d k (b.take (8 - k))], [(0, k + min b.length (8 - k))], fd1⟩) := by
  unfold writeF
  show (if b = [] then _ else if 8 ≤ k then _ else _) = _
  rw [if_neg h0, if_neg (by omega)]
  have e : min (b.length : Int) (8 - (k : Int)) = ((min b.length (8 - k) : Nat) : Int) := by omega
  rw [← e]
  rfl
theorem wr_read (t : St) (k n m : Nat) (hm : min n (d.length - k) = m) (h0 : m ≠ 0) : readF ⟨t, [d], [(0, k)], fd1⟩ 0 n = (((d.drop k).take m, (m : Int)), ⟨t, [d], [(0, k + m)], fd1⟩) := by
  have e : manyR ⟨t, [d], [(0, k)], fd1⟩ 0 n = m := hm
  have e0 : ofI ⟨t, [d], [(0, k)], fd1⟩ 0 = some 0 := rfl
  unfold readF
  rw [e0]
  simp only [e, if_neg h0]
  rfl
theorem wr_none (t : St) (k n : Nat) (hm : min n (d.length - k) = 0) : readF ⟨t, [d], [(0, k)], fd1⟩ 0 n = (([], 0), ⟨t, [d], [(0, k)], fd1⟩) := by
  have e : manyR ⟨t, [d], [(0, k)], fd1⟩ 0 n = 0 := hm
  unfold readF
  show (if manyR ⟨t, [d], [(0, k)], fd1⟩ 0 n = 0 then _ else _) = _
  rw [if_pos e]
theorem wr_trunc (t : St) (x n : Nat) (hn : n ≤ 8) : truncF ⟨t, [d], [(0, x)], fd1⟩ 0 n = (0, ⟨t, [cutL d n], [(0, x)], fd1⟩) := by
  unfold truncF
  show (if 8 < n then _ else _) = _
  rw [if_neg (by omega)]
  rfl
theorem wr_long (t : St) (x n : Nat) (hn : 8 < n) : truncF ⟨t, [d], [(0, x)], fd1⟩ 0 n = (65302, ⟨t, [d], [(0, x)], fd1⟩) := by
  unfold truncF
  show (if 8 < n then _ else _) = _
  rw [if_pos hn]
theorem cutL_len (n : Nat) : (cutL d n).length = n := by unfold cutL; simp; omega
/-! ### What a write leaves -/
theorem putL_len (k : Nat) : (putL d k b).length = max d.length (k + b.length) := by unfold putL; simp; omega
theorem putL_mid (k : Nat) : ((putL d k b).drop k).take b.length = b := by
  unfold putL
  have hl : ((d ++ List.replicate (k + b.length - d.length) 0).take k).length = k := by simp; omega
  rw [List.append_assoc, List.drop_append_of_le_length (by omega), List.drop_of_length_le (by omega), List.nil_append, List.take_left']
  rfl
theorem putL_in {k i : Nat} (h1 : k ≤ i) (h2 : i < k + b.length) : (putL d k b)[i]? = b[i - k]? := by
  unfold putL
  have hl : ((d ++ List.replicate (k + b.length - d.length) 0).take k).length = k := by simp; omega
  rw [List.append_assoc, List.getElem?_append_right (by omega), hl, List.getElem?_append_left (by omega)]
theorem putL_out {k i : Nat} (h : i < k ∨ k + b.length ≤ i) (hi : i < (putL d k b).length) : (putL d k b)[i]? = if i < d.length then d[i]? else some 0 := by
  rw [putL_len] at hi
  unfold putL
  have hl : ((d ++ List.replicate (k + b.length - d.length) 0).take k).length = k := by simp; omega
  rcases h with h | h
  · rw [List.append_assoc, List.getElem?_append_left (by omega), List.getElem?_take_of_lt h]
    split
    · rename_i q; rw [List.getElem?_append_left q]
    · rename_i q
      rw [List.getElem?_append_right (by omega), List.getElem?_replicate, if_pos (by omega)]
  · have hd : i < d.length := by omega
    rw [List.getElem?_append_right (by simp; omega), if_pos hd, List.getElem?_drop]
    congr 1
    simp
    omega
end
end Go.Proofs.Ytckoapfmfpmdgaa
