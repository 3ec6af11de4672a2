/-
  Parts of the proof, joined: FileV, FileW.
-/
import Derived.Test.YtckoapfmfpmdgaaMh17
import Derived.Test.YtckoapfmfpmdgaaMh18

namespace Go.Proofs.Ytckoapfmfpmdgaa
open Go.ChangeShapes Go.WideShapes Go.ChangeAt Go.RowKit Go.Joins
set_option linter.unusedVariables false
set_option linter.unusedSimpArgs false

theorem cvt3 {w : World} {y : Value} (h : BtA w y [1, 2]) : (convert 52 9 y).run Try.prog w = .ok (.string ⟨#[1, 2]⟩) w := conv_bta h
theorem cvt4 {w : World} {y : Value} (h : BtA w y [3]) : (convert 52 9 y).run Try.prog w = .ok (.string ⟨#[3]⟩) w := conv_bta h
theorem cvt14 {w : World} {y : Value} (h : BtA w y [0, 0, 0, 0, 0, 0, 9, 9]) : (convert 52 9 y).run Try.prog w = .ok (.string ⟨#[0, 0, 0, 0, 0, 0, 9, 9]⟩) w := conv_bta h
def ea : List Ent := [([97], false)]
def ead : List Ent := [([97], false), ([100], true)]
def kf0 : Fs := ⟨⟨[⟨[97], false, 0⟩, ⟨[100], true, 1⟩], 2⟩, [[1, 2, 3], []], [], [-1, -1, -1, -1]⟩
theorem kh0 : newF ead [[1, 2, 3]] = .inr kf0 := by
  have : (match newF ead [[1, 2, 3]] with | .inr s => decide (s = kf0) | .inl _ => false) = true := by decide +kernel
  cases h : newF ead [[1, 2, 3]] with
  | inl k => rw [h] at this; cases this
  | inr s => rw [h] at this; rw [of_decide_eq_true this]
theorem bad_is {es : List Ent} {ds : List (List UInt8)} {k : Int} (h : (match newF es ds with | .inr s => false | .inl j => decide (j = k)) = true) : newF es ds = .inl k := by
  cases e : newF es ds with
  | inl j => rw [e] at h; rw [of_decide_eq_true h]
  | inr s => rw [e] at h; cases h
def kf1 : Fs := (openF kf0 [97]).2
theorem kh1 : openF kf0 [97] = (0, kf1) := by decide +kernel
theorem kw1 : Few kf1 := ⟨by decide +kernel, by decide +kernel⟩
def kf2 : Fs := (twinF kf1 0).2
theorem kh2 : twinF kf1 0 = (1, kf2) := by decide +kernel
theorem kw2 : Few kf2 := ⟨by decide +kernel, by decide +kernel⟩
def kf3 : Fs := (readF kf2 0 2).2
theorem kh3 : readF kf2 0 2 = (([1, 2], 2), kf3) := by decide +kernel
theorem kw3 : Few kf3 := ⟨by decide +kernel, by decide +kernel⟩
def kf4 : Fs := (readF kf3 1 9).2
theorem kh4 : readF kf3 1 9 = (([3], 1), kf4) := by decide +kernel
theorem kw4 : Few kf4 := ⟨by decide +kernel, by decide +kernel⟩
theorem kh5 : openF kf4 [100] = (65301, kf4) := by decide +kernel
theorem kh6 : openF kf4 [97, 47, 120] = (65300, kf4) := by decide +kernel
def kf7 : Fs := (openF kf4 [98]).2
theorem kh7 : openF kf4 [98] = (2, kf7) := by decide +kernel
theorem kw7 : Few kf7 := ⟨by decide +kernel, by decide +kernel⟩
def kf8 : Fs := (openF kf7 [97]).2
theorem kh8 : openF kf7 [97] = (3, kf8) := by decide +kernel
theorem kw8 : Few kf8 := ⟨by decide +kernel, by decide +kernel⟩
theorem kh9 : openF kf8 [99] = (65304, kf8) := by decide +kernel
def kf10 : Fs := (seekF kf8 2 6).2
theorem kh10 : seekF kf8 2 6 = (6, kf10) := by decide +kernel
theorem kw10 : Few kf10 := ⟨by decide +kernel, by decide +kernel⟩
def kf11 : Fs := (writeF kf10 2 [9, 9, 9]).2
theorem kh11 : writeF kf10 2 [9, 9, 9] = (2, kf11) := by decide +kernel
theorem kw11 : Few kf11 := ⟨by decide +kernel, by decide +kernel⟩
theorem kh12 : writeF kf11 2 [1] = (65308, kf11) := by decide +kernel
theorem kh13 : writeF kf11 2 [] = (0, kf11) := by decide +kernel
theorem kh14 : bytesF kf11 [98] = ([0, 0, 0, 0, 0, 0, 9, 9], 0) := by decide +kernel
def kf15 : Fs := (nameF kf11 33 [98] []).2
theorem kh15 : nameF kf11 33 [98] [] = (0, kf15) := by decide +kernel
theorem kw15 : Few kf15 := ⟨by decide +kernel, by decide +kernel⟩
theorem kh16 : sizeF kf15 2 = 8 := by decide +kernel
theorem kh17 : truncF kf15 2 9 = (65302, kf15) := by decide +kernel
theorem kh18 : seekF kf15 2 256 = (65302, kf15) := by decide +kernel
def kf19 : Fs := (closeF kf15 2).2
theorem kh19 : closeF kf15 2 = (0, kf19) := by decide +kernel
theorem kw19 : Few kf19 := ⟨by decide +kernel, by decide +kernel⟩
theorem kh20 : closeF kf19 2 = (65289, kf19) := by decide +kernel
theorem kh21 : readF kf19 2 1 = (([], 65289), kf19) := by decide +kernel
theorem kh22 : sizeF kf19 99 = 65289 := by decide +kernel
theorem dat_row {w : World} {g : Nat} {xs : List Value} {ds : List (List UInt8)} (hh : Has w g 52 xs.toArray) (hl : xs.length = ds.length) (hb : ∀ (i : Nat) x l, xs[i]? = some x → ds[i]? = some l → BtA w x l) : DatN w (.slice (some ⟨g, 0, none⟩) ds.length ds.length) ds := by
  refine ⟨_, ds.length, rfl, Nat.le_refl _, fun k l hk => ?_⟩
  have hlt : k < xs.length := by rw [hl]; exact (List.getElem?_eq_some_iff.1 hk).1
  refine ⟨g, 0, xs[k], rfl, ?_, hb k _ l (List.getElem?_eq_getElem hlt) hk⟩
  rw [Nat.zero_add, hh.cell k]
  simp [List.getElem?_eq_getElem hlt]
section
variable {T : FP} (C : FilesC T)
include C
theorem e_new {w : World} {x y : Value} {es : List (List UInt8 × Bool)} {data : List (List UInt8)} {k : Int} (hx : EntAt w x es) (hy : DatN w y data) (a0 : ∀ e ∈ es, e.1.length ≤ 140737488351232) (a1 : es.length ≤ 4611686018427387904) (a2 : data.length ≤ 4611686018427387904) (hn : newF es data = .inl k) :
    Calls Try.prog 30 #[x, y] w fun e w' => e = .returned (.tuple #[.pointer none, .int .i64 k]) ∧ Gw w w' := by
  refine (C.new hx hy a0 a1 a2).mono fun e w' h => ?_
  unfold NewFP at h
  rw [hn] at h
  exact h
abbrev eaC : Array Value := #[.string ⟨#[97]⟩, .bool false, .int .i64 0]
abbrev eadC : Array Value := #[.string ⟨#[97]⟩, .bool false, .int .i64 0, .string ⟨#[100]⟩, .bool true, .int .i64 0]
theorem kn_new (w : World) : Calls Try.prog 30 #[.slice (some ⟨w.heap.size, 0, none⟩) 2 2, .slice (some ⟨w.heap.size + 1 + 1, 0, none⟩) 1 1] (((w.alloc (.cells eadC 44)).alloc (.cells #[.int .u8 1, .int .u8 2, .int .u8 3] 5)).alloc (.cells #[.slice (some ⟨w.heap.size + 1, 0, none⟩) 3 3] 52)) fun e w' =>
    ∃ a, e = .returned (.tuple #[.pointer (some a), .int .i64 0]) ∧ Fx T (fun k => k < w.heap.size) w' (.pointer (some a)) kf0 ∧ Gw w w' := by
  have G1 := Gw.alloc w (.cells eadC 44)
  have G2 := Gw.alloc (w.alloc (.cells eadC 44)) (.cells #[.int .u8 1, .int .u8 2, .int .u8 3] 5)
  have G3 := Gw.alloc ((w.alloc (.cells eadC 44)).alloc (.cells #[.int .u8 1, .int .u8 2, .int .u8 3] 5)) (.cells #[.slice (some ⟨w.heap.size + 1, 0, none⟩) 3 3] 52)
  have hx := ((ent_row (es := ead) (Has.new w 44 eadC) (by rfl)).on G2).on G3
  have hb : BtA _ _ _ := bta_new (w.alloc (.cells eadC 44)) [1, 2, 3] (by decide)
  rw [size_alloc] at hb
  have hb' := hb.on G3
  have hy := dat_row (xs := [.slice (some ⟨w.heap.size + 1, 0, none⟩) 3 3]) (ds := [[1, 2, 3]]) (Has.new ((w.alloc (.cells eadC 44)).alloc (.cells #[.int .u8 1, .int .u8 2, .int .u8 3] 5)) 52 _) rfl (fun i x l h1 h2 => by
    match i, h1, h2 with
    | 0, h1, h2 => cases h1; cases h2; exact hb'
    | i + 1, h1, h2 => simp at h1)
  rw [size_alloc, size_alloc] at hy
  refine (x_new C hx hy (ent_sm (by decide +kernel)) (by decide) (by decide) kh0).mono fun e w' ⟨a, h1, h2, h3⟩ => ⟨a, h1, h2.less (fun j hj => ?_), ((G1.trans G2).trans G3).trans h3⟩
  exact Nat.lt_of_lt_of_le hj ((G1.trans G2).trans G3).size
theorem kn_new2 (w : World) : Calls Try.prog 30 #[.slice (some ⟨w.heap.size, 0, none⟩) 1 1, .slice none 0 0] (w.alloc (.cells eaC 44)) fun e w' => e = .returned (.tuple #[.pointer none, .int .i64 12]) ∧ Gw w w' := by
  have G1 := Gw.alloc w (.cells eaC 44)
  have hx := ent_row (es := ea) (Has.new w 44 eaC) (by rfl)
  exact (e_new C hx (DatN.nil _) (ent_sm (by decide +kernel)) (by decide) (by decide) (bad_is (by decide +kernel))).mono fun e w' ⟨h1, h2⟩ => ⟨h1, G1.trans h2⟩
theorem kn_new3 (w : World) : Calls Try.prog 30 #[.slice (some ⟨w.heap.size, 0, none⟩) 1 1, .slice (some ⟨w.heap.size + 1 + 1, 0, none⟩) 1 1] (((w.alloc (.cells eaC 44)).alloc (.cells (madeCells #[.int .u8 0] 9) 5)).alloc (.cells #[.slice (some ⟨w.heap.size + 1, 0, none⟩) 9 9] 52)) fun e w' => e = .returned (.tuple #[.pointer none, .int .i64 12]) ∧ Gw w w' := by
  have G1 := Gw.alloc w (.cells eaC 44)
  have G2 := Gw.alloc (w.alloc (.cells eaC 44)) (.cells (madeCells #[.int .u8 0] 9) 5)
  have G3 := Gw.alloc ((w.alloc (.cells eaC 44)).alloc (.cells (madeCells #[.int .u8 0] 9) 5)) (.cells #[.slice (some ⟨w.heap.size + 1, 0, none⟩) 9 9] 52)
  have hx := ((ent_row (es := ea) (Has.new w 44 eaC) (by rfl)).on G2).on G3
  have hb : BtA _ _ _ := bta_new (w.alloc (.cells eaC 44)) [0, 0, 0, 0, 0, 0, 0, 0, 0] (by decide)
  rw [size_alloc, show (byV [0, 0, 0, 0, 0, 0, 0, 0, 0]).toArray = madeCells #[.int .u8 0] 9 from (by first | rfl | kernel_rfl)] at hb
  have hb' := hb.on G3
  have hy := dat_row (xs := [.slice (some ⟨w.heap.size + 1, 0, none⟩) 9 9]) (ds := [[0, 0, 0, 0, 0, 0, 0, 0, 0]]) (Has.new ((w.alloc (.cells eaC 44)).alloc (.cells (madeCells #[.int .u8 0] 9) 5)) 52 _) rfl (fun i x l h1 h2 => by
    match i, h1, h2 with
    | 0, h1, h2 => cases h1; cases h2; exact hb'
    | i + 1, h1, h2 => simp at h1)
  rw [size_alloc, size_alloc] at hy
  exact (e_new C hx hy (ent_sm (by decide +kernel)) (by decide) (by decide) (bad_is (by decide +kernel))).mono fun e w' ⟨h1, h2⟩ => ⟨h1, ((G1.trans G2).trans G3).trans h2⟩
end
set_option maxRecDepth 100000 in
set_option maxHeartbeats 16000000 in
theorem known_files {T : FP} (C : FilesC T) (W : World) : Calls Try.prog 9 #[] W fun e W' => e = .returned (.bool true) ∧ Gw W W' := by
  have hn : ∀ b w, (Op.unary .not (.bool b)).run Try.prog w = .ok (.bool (!b)) w := fun _ _ => rfl
  have hmk : ∀ w : World, (Instr.makeSlice 52 (.int .i64 9) (.int .i64 9)).run Try.prog w = .ok (.slice (some ⟨w.heap.size, 0, none⟩) 9 9) (w.alloc (.cells (madeCells #[.int .u8 0] 9) 5)) := fun w => run_make_row' (P := Try.prog) 52 5 (.int .u8 0) 1 Try.underlying52 (by kernel_rfl) rfl .i64 .i64 9 (by omega) (by omega) w
  have AW := awake_files C W
  have B3 := Lib.hid (fun w : World => (bta_new w [9, 9, 9] (by decide) : BtA (w.alloc (.cells #[.int .u8 9, .int .u8 9, .int .u8 9] 5)) (.slice (some ⟨w.heap.size, 0, none⟩) 3 3) [9, 9, 9]))
  have B1 := Lib.hid (fun w : World => (bta_new w [1] (by decide) : BtA (w.alloc (.cells #[.int .u8 1] 5)) (.slice (some ⟨w.heap.size, 0, none⟩) 1 1) [1]))
  have N1 := Lib.hid (kn_new C)
  have N2 := Lib.hid (kn_new2 C)
  have N3 := Lib.hid (kn_new3 C)
  go_enter Try.func9, Try.ntmps9
  go_wp2_with (first
    | (go_at_call 28; with_reducible refine AW.mono ?_; rintro e wa ⟨rfl, Ga⟩; have Ga := Lib.hid Ga)
    | (go_at_call 30; refine (N1.out wa).mono ?_; rintro e wb ⟨a, rfl, Mb, Gb⟩; clear N1; have Gb := Lib.hid (Ga.out.trans Gb); have Kb := Lib.hid (fun (x : Nat) (hx : x < W.heap.size) => (Nat.lt_of_lt_of_le hx Ga.out.size : x < wa.heap.size)); have Mb := Lib.hid Mb; obtain ⟨K, hK⟩ : ∃ K : Nat → Prop, K = fun k => k < wa.heap.size := ⟨_, rfl⟩; rw [← hK] at Mb; replace Kb := Lib.hid (show ∀ x, x < W.heap.size → K x from (by rw [hK]; exact Kb.out)); clear hK)
    | (go_at_call 30; refine (N2.out wb).mono ?_; rintro e wc ⟨rfl, Gc⟩; clear N2; have Mc := Lib.hid (Mb.out.on C Gc); have Gc := Lib.hid (Gb.out.trans Gc))
    | (go_at_call 30; refine (N3.out wc).mono ?_; rintro e w0 ⟨rfl, G0⟩; have M0 := Lib.hid (Mc.out.on C G0); have G0 := Lib.hid (Gc.out.trans G0); clear N3; have A1 : Calls Try.prog 33 #[.pointer (some a), .string ⟨#[97]⟩] w0 _ := x_open C M0.out ⟨#[97]⟩ (by decide) kh1 kw1)
    | (go_at_call 33; with_reducible refine A1.mono ?_; clear A1; rintro e w1 ⟨rfl, M1, S1⟩; have G1 := Lib.hid (gw_sm G0.out (S1.less Kb.out)); have M1 := Lib.hid M1; clear S1; have A2 : Calls Try.prog 34 #[.pointer (some a), .int .u16 0] w1 _ := x_twin C M1.out 0 (by decide) kh2 kw2)
    | (go_at_call 34; with_reducible refine A2.mono ?_; clear A2; rintro e w2 ⟨rfl, M2, S2⟩; have G2 := Lib.hid (gw_sm G1.out (S2.less Kb.out)); have M2 := Lib.hid M2; clear S2; have A3 : Calls Try.prog 35 #[.pointer (some a), .int .u16 0, .int .u16 2] w2 _ := x_read C M2.out 0 2 (by decide) (by decide) kh3 kw3)
    | (go_at_call 35; with_reducible refine A3.mono ?_; clear A3; rintro e w3 ⟨x3, rfl, M3, S3, X3⟩; have G3 := Lib.hid (gw_sm G2.out (S3.less Kb.out)); obtain ⟨K3, hK⟩ : ∃ K' : Nat → Prop, K' = (fun j => K j ∨ Bk x3 j) := ⟨_, rfl⟩; rw [← hK] at M3; have Ka3 := Lib.hid (show ∀ x, x < W.heap.size → K3 x from (by rw [hK]; exact fun x hx => .inl (Kb.out x hx))); have Kx3 := Lib.hid (show ∀ j, Bk x3 j → K3 j from (by rw [hK]; exact fun j hj => .inr hj)); have X3 := Lib.hid X3; clear hK; have M3 := Lib.hid M3; clear S3; have A4 : Calls Try.prog 35 #[.pointer (some a), .int .u16 1, .int .u16 9] w3 _ := x_read C M3.out 1 9 (by decide) (by decide) kh4 kw4)
    | (go_at_call 35; with_reducible refine A4.mono ?_; clear A4; rintro e w4 ⟨x4, rfl, M4, S4, X4⟩; have G4 := Lib.hid (gw_sm G3.out (S4.less Ka3.out)); have X3 := Lib.hid (X3.out.sm Kx3.out S4); obtain ⟨K4, hK⟩ : ∃ K' : Nat → Prop, K' = (fun j => K3 j ∨ Bk x4 j) := ⟨_, rfl⟩; rw [← hK] at M4; have Ka4 := Lib.hid (show ∀ x, x < W.heap.size → K4 x from (by rw [hK]; exact fun x hx => .inl (Ka3.out x hx))); have Kx3 := Lib.hid (show ∀ j, Bk x3 j → K4 j from (by rw [hK]; exact fun j hj => .inl (Kx3.out j hj))); have Kx4 := Lib.hid (show ∀ j, Bk x4 j → K4 j from (by rw [hK]; exact fun j hj => .inr hj)); have X4 := Lib.hid X4; clear hK; have M4 := Lib.hid M4; clear S4; have A5 : Calls Try.prog 33 #[.pointer (some a), .string ⟨#[100]⟩] w4 _ := x_open C M4.out ⟨#[100]⟩ (by decide) kh5 kw4)
    | (go_at_call 33; with_reducible refine A5.mono ?_; clear A5; rintro e w5 ⟨rfl, M5, S5⟩; have G5 := Lib.hid (gw_sm G4.out (S5.less Ka4.out)); have X3 := Lib.hid (X3.out.sm Kx3.out S5); have X4 := Lib.hid (X4.out.sm Kx4.out S5); have M5 := Lib.hid M5; clear S5; have A6 : Calls Try.prog 33 #[.pointer (some a), .string ⟨#[97, 47, 120]⟩] w5 _ := x_open C M5.out ⟨#[97, 47, 120]⟩ (by decide) kh6 kw4)
    | (go_at_call 33; with_reducible refine A6.mono ?_; clear A6; rintro e w6 ⟨rfl, M6, S6⟩; have G6 := Lib.hid (gw_sm G5.out (S6.less Ka4.out)); have X3 := Lib.hid (X3.out.sm Kx3.out S6); have X4 := Lib.hid (X4.out.sm Kx4.out S6); have M6 := Lib.hid M6; clear S6; have A7 : Calls Try.prog 33 #[.pointer (some a), .string ⟨#[98]⟩] w6 _ := x_open C M6.out ⟨#[98]⟩ (by decide) kh7 kw7)
    | (go_at_call 33; with_reducible refine A7.mono ?_; clear A7; rintro e w7 ⟨rfl, M7, S7⟩; have G7 := Lib.hid (gw_sm G6.out (S7.less Ka4.out)); have X3 := Lib.hid (X3.out.sm Kx3.out S7); have X4 := Lib.hid (X4.out.sm Kx4.out S7); have M7 := Lib.hid M7; clear S7; have A8 : Calls Try.prog 33 #[.pointer (some a), .string ⟨#[97]⟩] w7 _ := x_open C M7.out ⟨#[97]⟩ (by decide) kh8 kw8)
    | (go_at_call 33; with_reducible refine A8.mono ?_; clear A8; rintro e w8 ⟨rfl, M8, S8⟩; have G8 := Lib.hid (gw_sm G7.out (S8.less Ka4.out)); have X3 := Lib.hid (X3.out.sm Kx3.out S8); have X4 := Lib.hid (X4.out.sm Kx4.out S8); have M8 := Lib.hid M8; clear S8; have A9 : Calls Try.prog 33 #[.pointer (some a), .string ⟨#[99]⟩] w8 _ := x_open C M8.out ⟨#[99]⟩ (by decide) kh9 kw8)
    | (go_at_call 33; with_reducible refine A9.mono ?_; clear A9; rintro e w9 ⟨rfl, M9, S9⟩; have G9 := Lib.hid (gw_sm G8.out (S9.less Ka4.out)); have X3 := Lib.hid (X3.out.sm Kx3.out S9); have X4 := Lib.hid (X4.out.sm Kx4.out S9); have M9 := Lib.hid M9; clear S9; have A10 : Calls Try.prog 36 #[.pointer (some a), .int .u16 2, .int .u16 6] w9 _ := x_seek C M9.out 2 6 (by decide) (by decide) kh10 kw10)
    | (go_at_call 36; with_reducible refine A10.mono ?_; clear A10; rintro e w10 ⟨rfl, M10, S10⟩; have G10 := Lib.hid (gw_sm G9.out (S10.less Ka4.out)); have X3 := Lib.hid (X3.out.sm Kx3.out S10); have X4 := Lib.hid (X4.out.sm Kx4.out S10); have M10 := Lib.hid M10; clear S10; have A11 : Calls Try.prog 37 #[.pointer (some a), .int .u16 2, .slice (some ⟨w10.heap.size, 0, none⟩) 3 3] (w10.alloc (.cells #[.int .u8 9, .int .u8 9, .int .u8 9] 5)) _ := x_write C (M10.out.on C (Gw.alloc _ (.cells #[.int .u8 9, .int .u8 9, .int .u8 9] 5))) 2 _ [9, 9, 9] (by decide) (B3.out _) (by decide) kh11 kw11)
    | (go_at_call 37; with_reducible refine A11.mono ?_; clear A11; rintro e w11 ⟨rfl, M11, S11⟩; have S11 := (M10.out.m.sm (Gw.alloc _ (.cells #[.int .u8 9, .int .u8 9, .int .u8 9] 5))).trans S11; have G11 := Lib.hid (gw_sm G10.out (S11.less Ka4.out)); have X3 := Lib.hid (X3.out.sm Kx3.out S11); have X4 := Lib.hid (X4.out.sm Kx4.out S11); have M11 := Lib.hid M11; clear S11; have A12 : Calls Try.prog 37 #[.pointer (some a), .int .u16 2, .slice (some ⟨w11.heap.size, 0, none⟩) 1 1] (w11.alloc (.cells #[.int .u8 1] 5)) _ := x_write C (M11.out.on C (Gw.alloc _ (.cells #[.int .u8 1] 5))) 2 _ [1] (by decide) (B1.out _) (by decide) kh12 kw11)
    | (go_at_call 37; with_reducible refine A12.mono ?_; clear A12; rintro e w12 ⟨rfl, M12, S12⟩; have S12 := (M11.out.m.sm (Gw.alloc _ (.cells #[.int .u8 1] 5))).trans S12; have G12 := Lib.hid (gw_sm G11.out (S12.less Ka4.out)); have X3 := Lib.hid (X3.out.sm Kx3.out S12); have X4 := Lib.hid (X4.out.sm Kx4.out S12); have M12 := Lib.hid M12; clear S12; have A13 : Calls Try.prog 37 #[.pointer (some a), .int .u16 2, .slice none 0 0] w12 _ := x_write C M12.out 2 _ [] (by decide) (BtA.nil _) (by decide) kh13 kw11)
    | (go_at_call 37; with_reducible refine A13.mono ?_; clear A13; rintro e w13 ⟨rfl, M13, S13⟩; have G13 := Lib.hid (gw_sm G12.out (S13.less Ka4.out)); have X3 := Lib.hid (X3.out.sm Kx3.out S13); have X4 := Lib.hid (X4.out.sm Kx4.out S13); have M13 := Lib.hid M13; clear S13; have A14 : Calls Try.prog 38 #[.pointer (some a), .string ⟨#[98]⟩] w13 _ := x_data C M13.out ⟨#[98]⟩ (by decide) kh14)
    | (go_at_call 38; with_reducible refine A14.mono ?_; clear A14; rintro e w14 ⟨x14, rfl, M14, S14, X14⟩; have G14 := Lib.hid (gw_sm G13.out (S14.less Ka4.out)); have X3 := Lib.hid (X3.out.sm Kx3.out S14); have X4 := Lib.hid (X4.out.sm Kx4.out S14); obtain ⟨K14, hK⟩ : ∃ K' : Nat → Prop, K' = (fun j => K4 j ∨ Bk x14 j) := ⟨_, rfl⟩; rw [← hK] at M14; have Ka14 := Lib.hid (show ∀ x, x < W.heap.size → K14 x from (by rw [hK]; exact fun x hx => .inl (Ka4.out x hx))); have Kx3 := Lib.hid (show ∀ j, Bk x3 j → K14 j from (by rw [hK]; exact fun j hj => .inl (Kx3.out j hj))); have Kx4 := Lib.hid (show ∀ j, Bk x4 j → K14 j from (by rw [hK]; exact fun j hj => .inl (Kx4.out j hj))); have Kx14 := Lib.hid (show ∀ j, Bk x14 j → K14 j from (by rw [hK]; exact fun j hj => .inr hj)); have X14 := Lib.hid X14; clear hK; have M14 := Lib.hid M14; clear S14; have A15 : Calls Try.prog 39 #[.pointer (some a), .string ⟨#[98]⟩] w14 _ := x_unlink C M14.out ⟨#[98]⟩ (by decide) kh15 kw15)
    | (go_at_call 39; with_reducible refine A15.mono ?_; clear A15; rintro e w15 ⟨rfl, M15, S15⟩; have G15 := Lib.hid (gw_sm G14.out (S15.less Ka14.out)); have X3 := Lib.hid (X3.out.sm Kx3.out S15); have X4 := Lib.hid (X4.out.sm Kx4.out S15); have X14 := Lib.hid (X14.out.sm Kx14.out S15); have M15 := Lib.hid M15; clear S15; have A16 : Calls Try.prog 40 #[.pointer (some a), .int .u16 2] w15 _ := x_size C M15.out 2 (by decide) kh16)
    | (go_at_call 40; with_reducible refine A16.mono ?_; clear A16; rintro e w16 ⟨rfl, M16, S16⟩; have G16 := Lib.hid (gw_sm G15.out (S16.less Ka14.out)); have X3 := Lib.hid (X3.out.sm Kx3.out S16); have X4 := Lib.hid (X4.out.sm Kx4.out S16); have X14 := Lib.hid (X14.out.sm Kx14.out S16); have M16 := Lib.hid M16; clear S16; have A17 : Calls Try.prog 41 #[.pointer (some a), .int .u16 2, .int .u16 9] w16 _ := x_trunc C M16.out 2 9 (by decide) (by decide) kh17 kw15)
    | (go_at_call 41; with_reducible refine A17.mono ?_; clear A17; rintro e w17 ⟨rfl, M17, S17⟩; have G17 := Lib.hid (gw_sm G16.out (S17.less Ka14.out)); have X3 := Lib.hid (X3.out.sm Kx3.out S17); have X4 := Lib.hid (X4.out.sm Kx4.out S17); have X14 := Lib.hid (X14.out.sm Kx14.out S17); have M17 := Lib.hid M17; clear S17; have A18 : Calls Try.prog 36 #[.pointer (some a), .int .u16 2, .int .u16 256] w17 _ := x_seek C M17.out 2 256 (by decide) (by decide) kh18 kw15)
    | (go_at_call 36; with_reducible refine A18.mono ?_; clear A18; rintro e w18 ⟨rfl, M18, S18⟩; have G18 := Lib.hid (gw_sm G17.out (S18.less Ka14.out)); have X3 := Lib.hid (X3.out.sm Kx3.out S18); have X4 := Lib.hid (X4.out.sm Kx4.out S18); have X14 := Lib.hid (X14.out.sm Kx14.out S18); have M18 := Lib.hid M18; clear S18; have A19 : Calls Try.prog 42 #[.pointer (some a), .int .u16 2] w18 _ := x_close C M18.out 2 (by decide) kh19 kw19)
    | (go_at_call 42; with_reducible refine A19.mono ?_; clear A19; rintro e w19 ⟨rfl, M19, S19⟩; have G19 := Lib.hid (gw_sm G18.out (S19.less Ka14.out)); have X3 := Lib.hid (X3.out.sm Kx3.out S19); have X4 := Lib.hid (X4.out.sm Kx4.out S19); have X14 := Lib.hid (X14.out.sm Kx14.out S19); have M19 := Lib.hid M19; clear S19; have A20 : Calls Try.prog 42 #[.pointer (some a), .int .u16 2] w19 _ := x_close C M19.out 2 (by decide) kh20 kw19)
    | (go_at_call 42; with_reducible refine A20.mono ?_; clear A20; rintro e w20 ⟨rfl, M20, S20⟩; have G20 := Lib.hid (gw_sm G19.out (S20.less Ka14.out)); have X3 := Lib.hid (X3.out.sm Kx3.out S20); have X4 := Lib.hid (X4.out.sm Kx4.out S20); have X14 := Lib.hid (X14.out.sm Kx14.out S20); have M20 := Lib.hid M20; clear S20; have A21 : Calls Try.prog 35 #[.pointer (some a), .int .u16 2, .int .u16 1] w20 _ := x_read C M20.out 2 1 (by decide) (by decide) kh21 kw19)
    | (go_at_call 35; with_reducible refine A21.mono ?_; clear A21; rintro e w21 ⟨x21, rfl, M21, S21, X21⟩; have G21 := Lib.hid (gw_sm G20.out (S21.less Ka14.out)); have X3 := Lib.hid (X3.out.sm Kx3.out S21); have X4 := Lib.hid (X4.out.sm Kx4.out S21); have X14 := Lib.hid (X14.out.sm Kx14.out S21); obtain ⟨K21, hK⟩ : ∃ K' : Nat → Prop, K' = (fun j => K14 j ∨ Bk x21 j) := ⟨_, rfl⟩; rw [← hK] at M21; have Ka21 := Lib.hid (show ∀ x, x < W.heap.size → K21 x from (by rw [hK]; exact fun x hx => .inl (Ka14.out x hx))); have Kx3 := Lib.hid (show ∀ j, Bk x3 j → K21 j from (by rw [hK]; exact fun j hj => .inl (Kx3.out j hj))); have Kx4 := Lib.hid (show ∀ j, Bk x4 j → K21 j from (by rw [hK]; exact fun j hj => .inl (Kx4.out j hj))); have Kx14 := Lib.hid (show ∀ j, Bk x14 j → K21 j from (by rw [hK]; exact fun j hj => .inl (Kx14.out j hj))); have Kx21 := Lib.hid (show ∀ j, Bk x21 j → K21 j from (by rw [hK]; exact fun j hj => .inr hj)); have X21 := Lib.hid X21; clear hK; have cv3 : (convert 52 9 x3).run Try.prog w21 = .ok (.string ⟨#[1, 2]⟩) w21 := cvt3 X3.out; have cv4 : (convert 52 9 x4).run Try.prog w21 = .ok (.string ⟨#[3]⟩) w21 := cvt4 X4.out; have cv14 : (convert 52 9 x14).run Try.prog w21 = .ok (.string ⟨#[0, 0, 0, 0, 0, 0, 9, 9]⟩) w21 := cvt14 X14.out; have M21 := Lib.hid M21; clear S21; have A22 : Calls Try.prog 40 #[.pointer (some a), .int .u16 99] w21 _ := x_size C M21.out 99 (by decide) kh22)
    | (go_at_call 40; with_reducible refine A22.mono ?_; clear A22; rintro e w22 ⟨rfl, M22, S22⟩; have G22 := Lib.hid (gw_sm G21.out (S22.less Ka21.out)); have X3 := Lib.hid (X3.out.sm Kx3.out S22); have X4 := Lib.hid (X4.out.sm Kx4.out S22); have X14 := Lib.hid (X14.out.sm Kx14.out S22); have X21 := Lib.hid (X21.out.sm Kx21.out S22); have M22 := Lib.hid M22; clear S22))
  go_ret
  exact ⟨rfl, G22.out⟩
end Go.Proofs.Ytckoapfmfpmdgaa

namespace Go.Proofs.Ytckoapfmfpmdgaa
open Go.ChangeShapes Go.WideShapes Go.ChangeAt Go.RowKit Go.Joins
set_option linter.unusedVariables false
set_option linter.unusedSimpArgs false

def tab : St := ⟨[⟨[97], false, 0⟩, ⟨[98], false, 1⟩], 2⟩
def tb : St := ⟨[⟨[98], false, 1⟩], 2⟩
def ta : St := ⟨[⟨[97], false, 1⟩], 2⟩
def eab : List Ent := [([97], false), ([98], false)]
abbrev fd1 : List Int := [0, -1, -1, -1]
section
variable {b : List UInt8} (h1 : b ≠ []) (h8 : b.length ≤ 8)
theorem lv_new (h8 : b.length ≤ 8) : newF eab [b, [1]] = .inr ⟨tab, [b, [1]], [], [-1, -1, -1, -1]⟩ := by
  have ht : newT eab = some tab := by
    have : (match newT eab with | some s => decide (s = tab) | none => false) = true := by decide +kernel
    cases h : newT eab with
    | none => rw [h] at this; cases this
    | some s => rw [h] at this; rw [of_decide_eq_true this]
  refine newF_ok ht (k := 2) (a := [b, [1]]) ?_ rfl
  show fillTo eab [b, [1]] 2 = _
  have n8 : ¬ 8 < b.length := by omega
  simp [fillTo, eab, n8]
theorem lv_open (h8 : b.length ≤ 8) : openF ⟨tab, [b, [1]], [], [-1, -1, -1, -1]⟩ [97] = (0, ⟨tab, [b, [1]], [(0, 0)], fd1⟩) := by
  have e1 : nameB [97] = true := by decide +kernel
  have e2 : findT tab.l [97] = (0, false, 0) := by decide +kernel
  have e3 : abv tab.l [97] = 0 := by decide +kernel
  unfold openF
  rw [if_pos e1]
  simp only [e2, e3]
  rfl
theorem lv_drop : nameF ⟨tab, [b, [1]], [(0, 0)], fd1⟩ 33 [97] [] = (0, ⟨tb, [b, [1]], [(0, 0)], fd1⟩) := by
  have e1 : dropT tab [97] false = (0, tb) := by decide +kernel
  unfold nameF
  simp only [e1]
  rfl
theorem lv_move : nameF ⟨tab, [b, [1]], [(0, 0)], fd1⟩ 34 [98] [97] = (0, ⟨ta, [b, [1]], [(0, 0)], fd1⟩) := by
  have e1 : moveT tab [98] [97] = ((0, 0), ta) := by decide +kernel
  unfold nameF
  simp only [e1]
  rfl
include h1 h8 in
theorem lv_read (t : St) : readF ⟨t, [b, [1]], [(0, 0)], fd1⟩ 0 9 = ((b, (b.length : Int)), ⟨t, [b, [1]], [(0, b.length)], fd1⟩) := by
  have m : manyR ⟨t, [b, [1]], [(0, 0)], fd1⟩ 0 9 = b.length := by show min 9 (b.length - 0) = _; omega
  have n0 : b.length ≠ 0 := fun e => h1 (List.eq_nil_of_length_eq_zero e)
  have e : ofI ⟨t, [b, [1]], [(0, 0)], fd1⟩ 0 = some 0 := rfl
  unfold readF
  rw [e]
  simp only [m, n0, if_false]
  show ((List.take b.length (b.drop 0), (b.length : Int)), Fs.mk t [b, [1]] [(0, 0 + b.length)] fd1) = _
  rw [List.drop_zero, List.take_length, Nat.zero_add]
theorem lv_seek (t : St) (d : List (List UInt8)) (n : Nat) : seekF ⟨t, d, [(0, n)], fd1⟩ 0 0 = (0, ⟨t, d, [(0, 0)], fd1⟩) := rfl
include h1 h8 in
theorem lv_write (t : St) : writeF ⟨t, [b, [1]], [(0, 0)], fd1⟩ 0 [99] = (1, ⟨t, [99 :: b.tail, [1]], [(0, 1)], fd1⟩) := by
  have hp : putL b 0 [99] = 99 :: b.tail := by
    unfold putL
    cases b with
    | nil => exact absurd rfl h1
    | cons c l => simp
  show ((1 : Int), Fs.mk t [putL b 0 [99], [1]] [(0, 1)] fd1) = _
  rw [hp]
theorem lv_one (t : St) (l : List UInt8) : readF ⟨t, [99 :: l, [1]], [(0, 0)], fd1⟩ 0 1 = (([99], 1), ⟨t, [99 :: l, [1]], [(0, 1)], fd1⟩) := by
  have m : manyR ⟨t, [99 :: l, [1]], [(0, 0)], fd1⟩ 0 1 = 1 := by show min 1 ((99 :: l).length - 0) = 1; rw [List.length_cons]; omega
  have e : ofI ⟨t, [99 :: l, [1]], [(0, 0)], fd1⟩ 0 = some 0 := rfl
  unfold readF
  rw [e]
  simp only [m]
  rfl
theorem lv_again (l : List UInt8) : openF ⟨ta, [l, [1]], [(0, 1)], fd1⟩ [97] = (1, ⟨ta, [l, [1]], [(0, 1), (1, 0)], [0, 1, -1, -1]⟩) := by
  have e1 : nameB [97] = true := by decide +kernel
  have e2 : findT ta.l [97] = (1, false, 0) := by decide +kernel
  have e3 : abv ta.l [97] = 0 := by decide +kernel
  unfold openF
  rw [if_pos e1]
  simp only [e2, e3]
  rfl
theorem lv_made (l : List UInt8) : openF ⟨tb, [l, [1]], [(0, 1)], fd1⟩ [97] = (1, ⟨⟨[⟨[98], false, 1⟩, ⟨[97], false, 2⟩], 3⟩, [l, [1], []], [(0, 1), (2, 0)], [0, 1, -1, -1]⟩) := by
  have e1 : nameB [97] = true := by decide +kernel
  have e2 : findT tb.l [97] = (-1, false, 65282) := by decide +kernel
  have e3 : abv tb.l [97] = 0 := by decide +kernel
  have e4 : makeT tb [97] false = ((2, 0), ⟨[⟨[98], false, 1⟩, ⟨[97], false, 2⟩], 3⟩) := by decide +kernel
  unfold openF
  rw [if_pos e1]
  simp only [e2, e3, e4]
  rfl
theorem lv_rm (l : List UInt8) : readF ⟨ta, [l, [1]], [(0, 1), (1, 0)], [0, 1, -1, -1]⟩ 1 9 = (([1], 1), ⟨ta, [l, [1]], [(0, 1), (1, 1)], [0, 1, -1, -1]⟩) := rfl
theorem lv_ru (l : List UInt8) (t : St) : readF ⟨t, [l, [1], []], [(0, 1), (2, 0)], [0, 1, -1, -1]⟩ 1 9 = (([], 0), ⟨t, [l, [1], []], [(0, 1), (2, 0)], [0, 1, -1, -1]⟩) := rfl
theorem lv_su (l : List UInt8) (t : St) : sizeF ⟨t, [l, [1], []], [(0, 1), (2, 0)], [0, 1, -1, -1]⟩ 1 = 0 := rfl
theorem lv_b (l : List UInt8) : openF ⟨ta, [l, [1]], [(0, 1), (1, 1)], [0, 1, -1, -1]⟩ [98] = (2, ⟨⟨[⟨[97], false, 1⟩, ⟨[98], false, 2⟩], 3⟩, [l, [1], []], [(0, 1), (1, 1), (2, 0)], [0, 1, 2, -1]⟩) := by
  have e1 : nameB [98] = true := by decide +kernel
  have e2 : findT ta.l [98] = (-1, false, 65282) := by decide +kernel
  have e3 : abv ta.l [98] = 0 := by decide +kernel
  have e4 : makeT ta [98] false = ((2, 0), ⟨[⟨[97], false, 1⟩, ⟨[98], false, 2⟩], 3⟩) := by decide +kernel
  unfold openF
  rw [if_pos e1]
  simp only [e2, e3, e4]
  rfl
theorem lv_sm (l : List UInt8) (t : St) : sizeF ⟨t, [l, [1], []], [(0, 1), (1, 1), (2, 0)], [0, 1, 2, -1]⟩ 2 = 0 := rfl
end
end Go.Proofs.Ytckoapfmfpmdgaa
