/-
  Parts of the proof, joined: FileYi, FileYj, FileYl, FileEn.
-/
import Derived.Test.YtckoapfmfpmdgaaMp29
import Derived.Test.YtckoapfmfpmdgaaMp30
import Derived.Deep.RegionLaw
import Derived.Test.YtckoapfmfpmdgaaMp31
import Derived.Test.YtckoapfmfpmdgaaMp32
import Derived.Test.YtckoapfmfpmdgaaMp33
import Derived.Test.YtckoapfmfpmdgaaMp09
import Derived.Test.YtckoapfmfpmdgaaMp26
import Derived.Deep.Strs

namespace Go.Proofs.Ytckoapfmfpmdgaa
open Go.ChangeShapes Go.WideShapes Go.ChangeAt Go.RowKit Go.Joins
set_option linter.unusedVariables false
set_option linter.unusedSimpArgs false

def mk_do_list (v : Value) (g d : Nat) (ag : Value) (x : Nat → Value) : Act := { tmps := #[v, .pointer (some ⟨g, 0, none⟩), ag, undef, undef, .pointer (some ⟨d, 0, none⟩), x 13, undef, undef, undef, undef, undef, undef, undef, undef, .pointer (some ⟨d, 0, none⟩), .int .i64 37, .bool false, .bool false, undef, undef, undef, undef, undef, undef, undef, undef, undef, .bool false, .bool false, undef, undef, undef, undef, undef, undef, undef, undef, undef, .bool false, .bool false, undef, undef, undef, undef, undef, undef, undef, undef, undef, undef, undef, undef, undef, undef, undef, undef, undef, undef, undef, undef, undef, undef, undef, undef, undef, undef, undef, undef, .bool false, .bool false, undef, undef, undef, undef, undef, undef, undef, undef, undef, undef, undef, undef, undef, .bool false, .bool false, undef, undef, undef, undef, undef, undef, undef, undef, undef, undef, undef, undef, undef, .bool false, .bool false, undef, undef, undef, undef, undef, undef, undef, undef, undef, .bool false, .bool false, undef, undef, undef, undef, undef, undef, undef, undef, undef, undef, undef, undef, undef, .bool false, .bool false, undef, undef, undef, undef, undef, undef, undef, undef, undef, .bool false, .bool false, undef, undef, undef, undef, undef, undef, undef, undef, undef, undef, undef, undef, undef, .bool false, .bool false, undef, undef, undef, undef, undef, undef, undef, undef, undef, undef, undef, undef, undef, undef, undef, .bool false, .bool false, undef, undef, undef, undef, undef, undef, undef, undef, undef, undef, undef, undef, undef, .bool false, .bool false, undef, undef, undef, undef, undef, undef, undef, undef, undef, undef, undef, undef, undef, .bool true, .bool true, x 0, x 1, x 2, x 3, x 4, x 5, x 6, x 7, x 8, x 9, x 10, x 11, x 12, undef, undef, undef, undef, undef, undef, undef, undef, undef, undef, undef, undef, undef, undef, undef, undef, undef, undef, undef, undef, undef, undef, undef, undef], defers := [] }
set_option maxRecDepth 100000 in
set_option maxHeartbeats 8000000 in
theorem do_list {T : FP} (C : FilesC T) {bz g : Nat} {K : Nat → Prop} {w : World} {v : Value} {s : Fs} (M : Fp T bz K w v g s s) (ok : FOk s) (few : Few s) (fd n : Nat) (y : Value) (lb : List UInt8) (p q : ByteArray) (hfd : fd ≤ 65535) (hn16 : n ≤ 65535) (hp : p.size ≤ 140737488351232) (hq : q.size ≤ 140737488351232) (hy : BtA w y lb) (hyk : ∀ j, Bk y j → K j) (hlb : lb.length ≤ 4611686018427387904) :
    Calls Try.prog 32 #[v, .pointer (some ⟨g, 0, none⟩), .agg (ddC 37 fd n y p q)] w fun e w' => e = .returned (.bool true) ∧ Fp T bz K w' v g (nameF s 37 p.data.toList []).2 (nameF s 37 p.data.toList []).2 ∧ Sm K w w' := by
  have G0 := Gw.alloc w (.cells (ddC 37 fd n y p q) 75)
  have M0 := Lib.hid ((M.box C (.cells (ddC 37 fd n y p q) 75)).on C (Gw.refl _).drew)
  have S0 := Lib.hid (M.sm (G0.trans (Gw.refl _).drew))
  have hw0 : (w.alloc (.cells (ddC 37 fd n y p q) 75)).drew.heap[w.heap.size]? = some (.cells (ddC 37 fd n y p q) 75) := heap_alloc_new w _
  have hcell := fun w' (S : Sm (fun k => K k ∨ k = w.heap.size) (w.alloc (.cells (ddC 37 fd n y p q) 75)).drew w') => dd_cells hw0 S
  have hc0 : Hid _ := Lib.hid (dd_cells (K := K) (w1 := w.alloc (.cells (ddC 37 fd n y p q) 75)) (heap_alloc_new w _) (Sm.refl _ _))
  obtain ⟨c0, c1, c2, c3, c4, c5⟩ := hc0.out
  obtain ⟨d0, d1, d2, d3, d4, d5⟩ := hcell _ (Sm.refl _ _)
  have A1 := yt_list C M0.out ok few p hp
  have B1 := ym_name C M0.out ok few 37 p q hp hq
  rw [name_q 37 (by decide)] at B1
  obtain ⟨r, hr⟩ : ∃ r, r = nameF s 37 p.data.toList [] := ⟨_, rfl⟩
  rw [← hr] at A1 B1 ⊢
  have HR := Lib.hid hr
  clear hr
  obtain ⟨r1, s'⟩ := r
  have HM := Lib.hid M
  clear hc0 M
  unfold ddC at *
  go_enter Try.func32, Try.ntmps32
  go_upto_region 29 with fail
  show (Code.region 29 _ true).wp _ _ (mk_do_list v g w.heap.size (.agg #[.int .i64 37, .int .u16 (fd : Int), .int .u16 (n : Int), y, .string p, .string q]) (fun k => if k = 13 then .bool false else undef)) _
  refine region_known (mk := mk_do_list v g w.heap.size (.agg #[.int .i64 37, .int .u16 (fd : Int), .int .u16 (n : Int), y, .string p, .string q])) (val := fun j => ([v, .pointer (some ⟨w.heap.size, 4, none⟩), .string p, .int .u16 r1, .pointer (some ⟨g, 0, none⟩), .pointer (some ⟨w.heap.size, 0, none⟩), .int .i64 37, .pointer (some ⟨w.heap.size, 4, none⟩), .string p, .pointer (some ⟨w.heap.size, 5, none⟩), .string q, .int .u16 r1, .bool true, .bool true] : List Value).getD j undef) (S := fun b1 b2 wc => Fp T bz (fun k => K k ∨ k = w.heap.size) wc v g (if b1 = true then s' else s) (if b2 = true then s' else s) ∧ Sm (fun k => K k ∨ k = w.heap.size) (w.alloc (.cells #[.int .i64 37, .int .u16 (fd : Int), .int .u16 (n : Int), y, .string p, .string q] 75)).drew wc) (n := 14) (c1 := 3) (c2 := 11) ?_ (by kernel_rfl) (by decide) (by decide) ?_ ?_ ?_ ?_ ?_ ?_
  · rfl
  · exact vops_guard (by decide +kernel)
  · exact vops_wf (by decide +kernel)
  · exact ⟨M0.out, Sm.refl _ _⟩
  · intro i o' u z ho
    have hi : i < 14 := (Array.getElem?_eq_some_iff.1 ho).1
    rcases (by omega : i = 0 ∨ i = 1 ∨ i = 2 ∨ i = 3 ∨ i = 4 ∨ i = 5 ∨ i = 6 ∨ i = 7 ∨ i = 8 ∨ i = 9 ∨ i = 10 ∨ i = 11 ∨ i = 12 ∨ i = 13) with rfl | rfl | rfl | rfl | rfl | rfl | rfl | rfl | rfl | rfl | rfl | rfl | rfl | rfl
    all_goals (cases ho; rfl)
  · intro i o' u b1 b2 wc ho hb1 hb2 hS hdep K2 hK
    have hi : i < 14 := (Array.getElem?_eq_some_iff.1 ho).1
    rcases (by omega : i = 0 ∨ i = 1 ∨ i = 2 ∨ i = 3 ∨ i = 4 ∨ i = 5 ∨ i = 6 ∨ i = 7 ∨ i = 8 ∨ i = 9 ∨ i = 10 ∨ i = 11 ∨ i = 12 ∨ i = 13) with rfl | rfl | rfl | rfl | rfl | rfl | rfl | rfl | rfl | rfl | rfl | rfl | rfl | rfl
    · cases ho
      have e90 : (mk_do_list v g w.heap.size (.agg #[.int .i64 37, .int .u16 (fd : Int), .int .u16 (n : Int), y, .string p, .string q]) u).tmps[0]?.getD undef = v := rfl
      refine vop_val (v := v) (w' := wc) (by go_simp) ?_
      exact hK wc (by rw [show (b1 || (0 : Nat) == 3) = b1 from Bool.or_false _, show (b2 || (0 : Nat) == 11) = b2 from Bool.or_false _]; exact hS)
    · cases ho
      have e90 : (mk_do_list v g w.heap.size (.agg #[.int .i64 37, .int .u16 (fd : Int), .int .u16 (n : Int), y, .string p, .string q]) u).tmps[5]?.getD undef = .pointer (some ⟨w.heap.size, 0, none⟩) := rfl
      refine vop_val (v := .pointer (some ⟨w.heap.size, 4, none⟩)) (w' := wc) (by go_simp) ?_
      exact hK wc (by rw [show (b1 || (1 : Nat) == 3) = b1 from Bool.or_false _, show (b2 || (1 : Nat) == 11) = b2 from Bool.or_false _]; exact hS)
    · cases ho
      have e1 : (mk_do_list v g w.heap.size (.agg #[.int .i64 37, .int .u16 (fd : Int), .int .u16 (n : Int), y, .string p, .string q]) u).tmps[201]?.getD undef = .pointer (some ⟨w.heap.size, 4, none⟩) := hdep ⟨1, .data⟩ (by simp) rfl
      obtain ⟨k0, k1, k2, k3, k4, k5⟩ := hcell _ hS.2
      refine vop_val (v := .string p) (w' := wc) (by go_simp) ?_
      exact hK wc (by rw [show (b1 || (2 : Nat) == 3) = b1 from Bool.or_false _, show (b2 || (2 : Nat) == 11) = b2 from Bool.or_false _]; exact hS)
    · cases ho
      have e0 : (mk_do_list v g w.heap.size (.agg #[.int .i64 37, .int .u16 (fd : Int), .int .u16 (n : Int), y, .string p, .string q]) u).tmps[200]?.getD undef = v := hdep ⟨0, .data⟩ (by simp) rfl
      have e2 : (mk_do_list v g w.heap.size (.agg #[.int .i64 37, .int .u16 (fd : Int), .int .u16 (n : Int), y, .string p, .string q]) u).tmps[202]?.getD undef = .string p := hdep ⟨2, .data⟩ (by simp) rfl
      obtain rfl : b1 = false := hb1 rfl
      have A2 := yt_list C (show Fp T bz (fun k => K k ∨ k = w.heap.size) wc v g s (if b2 = true then s' else s) from hS.1) ok few p hp
      rw [← HR.out] at A2
      refine vop_enter (f := 70) (args := #[v, .string p]) (by go_simp) ?_
      refine A2.mono ?_
      rintro e wa ⟨rfl, HA, SX⟩
      exact hK wa (by rw [show (false || (3 : Nat) == 3) = true from rfl, show (b2 || (3 : Nat) == 11) = b2 from Bool.or_false _, if_pos (rfl : true = true)]; exact ⟨HA, hS.2.trans SX⟩)
    · cases ho
      have e90 : (mk_do_list v g w.heap.size (.agg #[.int .i64 37, .int .u16 (fd : Int), .int .u16 (n : Int), y, .string p, .string q]) u).tmps[1]?.getD undef = .pointer (some ⟨g, 0, none⟩) := rfl
      refine vop_val (v := .pointer (some ⟨g, 0, none⟩)) (w' := wc) (by go_simp) ?_
      exact hK wc (by rw [show (b1 || (4 : Nat) == 3) = b1 from Bool.or_false _, show (b2 || (4 : Nat) == 11) = b2 from Bool.or_false _]; exact hS)
    · cases ho
      have e90 : (mk_do_list v g w.heap.size (.agg #[.int .i64 37, .int .u16 (fd : Int), .int .u16 (n : Int), y, .string p, .string q]) u).tmps[5]?.getD undef = .pointer (some ⟨w.heap.size, 0, none⟩) := rfl
      refine vop_val (v := .pointer (some ⟨w.heap.size, 0, none⟩)) (w' := wc) (by go_simp) ?_
      exact hK wc (by rw [show (b1 || (5 : Nat) == 3) = b1 from Bool.or_false _, show (b2 || (5 : Nat) == 11) = b2 from Bool.or_false _]; exact hS)
    · cases ho
      have e5 : (mk_do_list v g w.heap.size (.agg #[.int .i64 37, .int .u16 (fd : Int), .int .u16 (n : Int), y, .string p, .string q]) u).tmps[205]?.getD undef = .pointer (some ⟨w.heap.size, 0, none⟩) := hdep ⟨5, .data⟩ (by simp) rfl
      obtain ⟨k0, k1, k2, k3, k4, k5⟩ := hcell _ hS.2
      refine vop_val (v := .int .i64 37) (w' := wc) (by go_simp) ?_
      exact hK wc (by rw [show (b1 || (6 : Nat) == 3) = b1 from Bool.or_false _, show (b2 || (6 : Nat) == 11) = b2 from Bool.or_false _]; exact hS)
    · cases ho
      have e90 : (mk_do_list v g w.heap.size (.agg #[.int .i64 37, .int .u16 (fd : Int), .int .u16 (n : Int), y, .string p, .string q]) u).tmps[5]?.getD undef = .pointer (some ⟨w.heap.size, 0, none⟩) := rfl
      refine vop_val (v := .pointer (some ⟨w.heap.size, 4, none⟩)) (w' := wc) (by go_simp) ?_
      exact hK wc (by rw [show (b1 || (7 : Nat) == 3) = b1 from Bool.or_false _, show (b2 || (7 : Nat) == 11) = b2 from Bool.or_false _]; exact hS)
    · cases ho
      have e7 : (mk_do_list v g w.heap.size (.agg #[.int .i64 37, .int .u16 (fd : Int), .int .u16 (n : Int), y, .string p, .string q]) u).tmps[207]?.getD undef = .pointer (some ⟨w.heap.size, 4, none⟩) := hdep ⟨7, .data⟩ (by simp) rfl
      obtain ⟨k0, k1, k2, k3, k4, k5⟩ := hcell _ hS.2
      refine vop_val (v := .string p) (w' := wc) (by go_simp) ?_
      exact hK wc (by rw [show (b1 || (8 : Nat) == 3) = b1 from Bool.or_false _, show (b2 || (8 : Nat) == 11) = b2 from Bool.or_false _]; exact hS)
    · cases ho
      have e90 : (mk_do_list v g w.heap.size (.agg #[.int .i64 37, .int .u16 (fd : Int), .int .u16 (n : Int), y, .string p, .string q]) u).tmps[5]?.getD undef = .pointer (some ⟨w.heap.size, 0, none⟩) := rfl
      refine vop_val (v := .pointer (some ⟨w.heap.size, 5, none⟩)) (w' := wc) (by go_simp) ?_
      exact hK wc (by rw [show (b1 || (9 : Nat) == 3) = b1 from Bool.or_false _, show (b2 || (9 : Nat) == 11) = b2 from Bool.or_false _]; exact hS)
    · cases ho
      have e9 : (mk_do_list v g w.heap.size (.agg #[.int .i64 37, .int .u16 (fd : Int), .int .u16 (n : Int), y, .string p, .string q]) u).tmps[209]?.getD undef = .pointer (some ⟨w.heap.size, 5, none⟩) := hdep ⟨9, .data⟩ (by simp) rfl
      obtain ⟨k0, k1, k2, k3, k4, k5⟩ := hcell _ hS.2
      refine vop_val (v := .string q) (w' := wc) (by go_simp) ?_
      exact hK wc (by rw [show (b1 || (10 : Nat) == 3) = b1 from Bool.or_false _, show (b2 || (10 : Nat) == 11) = b2 from Bool.or_false _]; exact hS)
    · cases ho
      have e4 : (mk_do_list v g w.heap.size (.agg #[.int .i64 37, .int .u16 (fd : Int), .int .u16 (n : Int), y, .string p, .string q]) u).tmps[204]?.getD undef = .pointer (some ⟨g, 0, none⟩) := hdep ⟨4, .data⟩ (by simp) rfl
      have e6 : (mk_do_list v g w.heap.size (.agg #[.int .i64 37, .int .u16 (fd : Int), .int .u16 (n : Int), y, .string p, .string q]) u).tmps[206]?.getD undef = .int .i64 37 := hdep ⟨6, .data⟩ (by simp) rfl
      have e8 : (mk_do_list v g w.heap.size (.agg #[.int .i64 37, .int .u16 (fd : Int), .int .u16 (n : Int), y, .string p, .string q]) u).tmps[208]?.getD undef = .string p := hdep ⟨8, .data⟩ (by simp) rfl
      have e10 : (mk_do_list v g w.heap.size (.agg #[.int .i64 37, .int .u16 (fd : Int), .int .u16 (n : Int), y, .string p, .string q]) u).tmps[210]?.getD undef = .string q := hdep ⟨10, .data⟩ (by simp) rfl
      obtain rfl : b2 = false := hb2 rfl
      have B2 := ym_name C (show Fp T bz (fun k => K k ∨ k = w.heap.size) wc v g (if b1 = true then s' else s) s from hS.1) ok few 37 p q hp hq
      rw [name_q 37 (by decide)] at B2
      rw [← HR.out] at B2
      refine vop_enter (f := 67) (args := #[.pointer (some ⟨g, 0, none⟩), .int .i64 37, .string p, .string q]) (by go_simp) ?_
      refine B2.mono ?_
      rintro e wa ⟨rfl, HA, SX⟩
      exact hK wa (by rw [show (false || (11 : Nat) == 11) = true from rfl, show (b1 || (11 : Nat) == 3) = b1 from Bool.or_false _, if_pos (rfl : true = true)]; exact ⟨HA, hS.2.trans SX⟩)
    · cases ho
      have e3 : (mk_do_list v g w.heap.size (.agg #[.int .i64 37, .int .u16 (fd : Int), .int .u16 (n : Int), y, .string p, .string q]) u).tmps[203]?.getD undef = .int .u16 r1 := hdep ⟨3, .data⟩ (by simp) rfl
      have e11 : (mk_do_list v g w.heap.size (.agg #[.int .i64 37, .int .u16 (fd : Int), .int .u16 (n : Int), y, .string p, .string q]) u).tmps[211]?.getD undef = .int .u16 r1 := hdep ⟨11, .data⟩ (by simp) rfl
      refine vop_val (v := .bool true) (w' := wc) (by go_simp) ?_
      exact hK wc (by rw [show (b1 || (12 : Nat) == 3) = b1 from Bool.or_false _, show (b2 || (12 : Nat) == 11) = b2 from Bool.or_false _]; exact hS)
    · cases ho
      have e12 : (mk_do_list v g w.heap.size (.agg #[.int .i64 37, .int .u16 (fd : Int), .int .u16 (n : Int), y, .string p, .string q]) u).tmps[212]?.getD undef = .bool true := hdep ⟨12, .data⟩ (by simp) rfl
      refine vop_val (v := .bool true) (w' := wc) (by go_simp) ?_
      exact hK wc (by rw [show (b1 || (13 : Nat) == 3) = b1 from Bool.or_false _, show (b2 || (13 : Nat) == 11) = b2 from Bool.or_false _]; exact hS)
  · intro u wc hv hS
    have h15 : u 13 = .bool true := hv 13 (by decide)
    dsimp only [mk_do_list]
    rw [h15]
    clear hv h15
    have HS9 := Lib.hid hS
    clear hS
    go_wp2
    go_ret
    exact ⟨rfl, HS9.out.1.less (fun j hj => .inl hj) HM.out.kb, S0.out.trans (HS9.out.2.less (fun j hj => .inl hj))⟩
end Go.Proofs.Ytckoapfmfpmdgaa

namespace Go.Proofs.Ytckoapfmfpmdgaa
open Go.ChangeShapes Go.WideShapes Go.ChangeAt Go.RowKit Go.Joins
set_option linter.unusedVariables false
set_option linter.unusedSimpArgs false

set_option maxRecDepth 100000 in
set_option maxHeartbeats 8000000 in
theorem do_read {T : FP} (C : FilesC T) {bz g : Nat} {K : Nat → Prop} {w : World} {v : Value} {s : Fs} (M : Fp T bz K w v g s s) (ok : FOk s) (few : Few s) (fd n : Nat) (y : Value) (p q : ByteArray) (hfd : fd ≤ 65535) (hn16 : n ≤ 65535) (hp : p.size ≤ 140737488351232) (hq : q.size ≤ 140737488351232) :
    Calls Try.prog 32 #[v, .pointer (some ⟨g, 0, none⟩), .agg (ddC 29 fd n y p q)] w fun e w' => e = .returned (.bool true) ∧ Fp T bz K w' v g (readF s fd n).2 (readF s fd n).2 ∧ Sm K w w' := by
  have G0 := Gw.alloc w (.cells (ddC 29 fd n y p q) 75)
  have M0 := Lib.hid (M.box C (.cells (ddC 29 fd n y p q) 75))
  have S0 := Lib.hid (M.sm G0)
  have hw0 : (w.alloc (.cells (ddC 29 fd n y p q) 75)).heap[w.heap.size]? = some (.cells (ddC 29 fd n y p q) 75) := heap_alloc_new w _
  have hcell := fun w' (S : Sm (fun k => K k ∨ k = w.heap.size) (w.alloc (.cells (ddC 29 fd n y p q) 75)) w') => dd_cells hw0 S
  obtain ⟨c0, c1, c2, c3, c4, c5⟩ := hcell _ (Sm.refl _ _)
  have A1 := yt_read C M0.out ok fd n hfd hn16
  obtain ⟨r, hr⟩ : ∃ r, r = readF s fd n := ⟨_, rfl⟩
  rw [← hr] at A1 ⊢
  have HR := Lib.hid hr
  clear hr
  obtain ⟨⟨l, r1⟩, s'⟩ := r
  have HM := Lib.hid M
  clear M
  unfold ddC at *
  go_enter Try.func32, Try.ntmps32
  go_wp2_with (first
    | (go_at_call 35; with_reducible refine A1.mono ?_; rintro e wa ⟨x, rfl, HA, SX, HX⟩; obtain ⟨k0, k1, k2, k3, k4, k5⟩ := hcell _ SX; have B1 := ym_read C HA fd n hfd hn16; rw [← HR.out] at B1)
    | (go_at_call 61; with_reducible refine B1.mono ?_; rintro e wb ⟨x2, rfl, HE, SE, HY⟩; have q1 := conv_bta (HX.sm (K := fun j => (K j ∨ j = w.heap.size) ∨ Bk x j) (fun j hj => .inr hj) SE); have q2 := conv_bta HY))
  go_ret
  exact ⟨by first | rfl | (simp; done) | go_simp, HE.less (fun j hj => .inl (.inl hj)) HM.out.kb, S0.out.trans ((SX.trans (SE.less (fun j hj => .inl hj))).less (fun j hj => .inl hj))⟩
set_option maxRecDepth 100000 in
set_option maxHeartbeats 8000000 in
theorem do_data {T : FP} (C : FilesC T) {bz g : Nat} {K : Nat → Prop} {w : World} {v : Value} {s : Fs} (M : Fp T bz K w v g s s) (ok : FOk s) (few : Few s) (k : Int) (hne : ∀ c ∈ [(27 : Int), 28, 29, 30, 31, 32, 38, 39, 33, 34, 35, 36, 37], k ≠ c) (fd n : Nat) (y : Value) (p q : ByteArray) (hfd : fd ≤ 65535) (hn16 : n ≤ 65535) (hp : p.size ≤ 140737488351232) (hq : q.size ≤ 140737488351232) :
    Calls Try.prog 32 #[v, .pointer (some ⟨g, 0, none⟩), .agg (ddC k fd n y p q)] w fun e w' => e = .returned (.bool true) ∧ Fp T bz K w' v g s s ∧ Sm K w w' := by
  have G0 := Gw.alloc w (.cells (ddC k fd n y p q) 75)
  have M0 := Lib.hid (M.box C (.cells (ddC k fd n y p q) 75))
  have S0 := Lib.hid (M.sm G0)
  have hw0 : (w.alloc (.cells (ddC k fd n y p q) 75)).heap[w.heap.size]? = some (.cells (ddC k fd n y p q) 75) := heap_alloc_new w _
  have hcell := fun w' (S : Sm (fun k => K k ∨ k = w.heap.size) (w.alloc (.cells (ddC k fd n y p q) 75)) w') => dd_cells hw0 S
  obtain ⟨c0, c1, c2, c3, c4, c5⟩ := hcell _ (Sm.refl _ _)
  have A1 := yt_data C M0.out ok p hp
  obtain ⟨r, hr⟩ : ∃ r, r = bytesF s p.data.toList := ⟨_, rfl⟩
  rw [← hr] at A1
  have HR := Lib.hid hr
  clear hr
  obtain ⟨l, r1⟩ := r
  have n27 : (k == 27) = false := beq_false_of_ne (hne 27 (by decide))
  have n28 : (k == 28) = false := beq_false_of_ne (hne 28 (by decide))
  have n29 : (k == 29) = false := beq_false_of_ne (hne 29 (by decide))
  have n30 : (k == 30) = false := beq_false_of_ne (hne 30 (by decide))
  have n31 : (k == 31) = false := beq_false_of_ne (hne 31 (by decide))
  have n32 : (k == 32) = false := beq_false_of_ne (hne 32 (by decide))
  have n38 : (k == 38) = false := beq_false_of_ne (hne 38 (by decide))
  have n39 : (k == 39) = false := beq_false_of_ne (hne 39 (by decide))
  have n33 : (k == 33) = false := beq_false_of_ne (hne 33 (by decide))
  have n34 : (k == 34) = false := beq_false_of_ne (hne 34 (by decide))
  have n35 : (k == 35) = false := beq_false_of_ne (hne 35 (by decide))
  have n36 : (k == 36) = false := beq_false_of_ne (hne 36 (by decide))
  have n37 : (k == 37) = false := beq_false_of_ne (hne 37 (by decide))
  clear hne
  have HM := Lib.hid M
  clear M
  unfold ddC at *
  go_enter Try.func32, Try.ntmps32
  go_wp2_with (first
    | (go_at_call 38; with_reducible refine A1.mono ?_; rintro e wa ⟨x, rfl, HA, SX, HX⟩; obtain ⟨k0, k1, k2, k3, k4, k5⟩ := hcell _ SX; have B1 := ym_bytes C HA ok p hp; rw [← HR.out] at B1)
    | (go_at_call 71; with_reducible refine B1.mono ?_; rintro e wb ⟨x2, rfl, HE, SE, HY⟩; have q1 := conv_bta (HX.sm (K := fun j => (K j ∨ j = w.heap.size) ∨ Bk x j) (fun j hj => .inr hj) SE); have q2 := conv_bta HY))
  go_ret
  exact ⟨by first | rfl | (simp; done) | go_simp, HE.less (fun j hj => .inl (.inl hj)) HM.out.kb, S0.out.trans ((SX.trans (SE.less (fun j hj => .inl hj))).less (fun j hj => .inl hj))⟩
end Go.Proofs.Ytckoapfmfpmdgaa

namespace Go.Proofs.Ytckoapfmfpmdgaa
open Go.ChangeShapes Go.WideShapes Go.ChangeAt Go.RowKit Go.Joins
set_option linter.unusedVariables false

theorem do_files {T : FP} (C : FilesC T) {bz g : Nat} {K : Nat → Prop} {w : World} {v : Value} {s : Fs} (M : Fp T bz K w v g s s) (ok : FOk s) (few : Few s) (k : Int) (fd n : Nat) (y : Value) (lb : List UInt8) (p q : ByteArray) (hfd : fd ≤ 65535) (hn16 : n ≤ 65535) (hp : p.size ≤ 140737488351232) (hq : q.size ≤ 140737488351232) (hy : BtA w y lb) (hyk : ∀ j, Bk y j → K j) (hlb : lb.length ≤ 4611686018427387904) :
    Calls Try.prog 32 #[v, .pointer (some ⟨g, 0, none⟩), .agg (ddC k fd n y p q)] w fun e w' => e = .returned (.bool true) ∧ ∃ s', Fp T bz K w' v g s' s' ∧ FOk s' ∧ Bd s s' ∧ Sm K w w' := by
  by_cases e27 : k = 27
  · subst e27
    exact (do_open C M ok few fd n y lb p q hfd hn16 hp hq hy hyk hlb).mono fun _ _ ⟨h1, h2, h3⟩ => ⟨h1, _, h2, ok.open_ _, bd_open _ _, h3⟩
  by_cases e28 : k = 28
  · subst e28
    exact (do_close C M ok few fd n y lb p q hfd hn16 hp hq hy hyk hlb).mono fun _ _ ⟨h1, h2, h3⟩ => ⟨h1, _, h2, ok.close _, bd_close _ _, h3⟩
  by_cases e30 : k = 30
  · subst e30
    exact (do_write C M ok few fd n y lb p q hfd hn16 hp hq hy hyk hlb).mono fun _ _ ⟨h1, h2, h3⟩ => ⟨h1, _, h2, ok.write _ _, bd_write _ _ _, h3⟩
  by_cases e31 : k = 31
  · subst e31
    exact (do_seek C M ok few fd n y lb p q hfd hn16 hp hq hy hyk hlb).mono fun _ _ ⟨h1, h2, h3⟩ => ⟨h1, _, h2, ok.seek _ _, bd_seek _ _ _, h3⟩
  by_cases e32 : k = 32
  · subst e32
    exact (do_size C M ok few fd n y lb p q hfd hn16 hp hq hy hyk hlb).mono fun _ _ ⟨h1, h2, h3⟩ => ⟨h1, _, h2, ok, bd_same _, h3⟩
  by_cases e38 : k = 38
  · subst e38
    exact (do_trunc C M ok few fd n y lb p q hfd hn16 hp hq hy hyk hlb).mono fun _ _ ⟨h1, h2, h3⟩ => ⟨h1, _, h2, ok.trunc _ _, bd_trunc _ _ _, h3⟩
  by_cases e39 : k = 39
  · subst e39
    exact (do_twin C M ok few fd n y lb p q hfd hn16 hp hq hy hyk hlb).mono fun _ _ ⟨h1, h2, h3⟩ => ⟨h1, _, h2, ok.twin _, bd_twin _ _, h3⟩
  by_cases e33 : k = 33
  · subst e33
    exact (do_unlink C M ok few fd n y lb p q hfd hn16 hp hq hy hyk hlb).mono fun _ _ ⟨h1, h2, h3⟩ => ⟨h1, _, h2, ok.name _ _ _, bd_name _ _ _ _, h3⟩
  by_cases e34 : k = 34
  · subst e34
    exact (do_rename C M ok few fd n y lb p q hfd hn16 hp hq hy hyk hlb).mono fun _ _ ⟨h1, h2, h3⟩ => ⟨h1, _, h2, ok.name _ _ _, bd_name _ _ _ _, h3⟩
  by_cases e35 : k = 35
  · subst e35
    exact (do_mkdir C M ok few fd n y lb p q hfd hn16 hp hq hy hyk hlb).mono fun _ _ ⟨h1, h2, h3⟩ => ⟨h1, _, h2, ok.name _ _ _, bd_name _ _ _ _, h3⟩
  by_cases e36 : k = 36
  · subst e36
    exact (do_rmdir C M ok few fd n y lb p q hfd hn16 hp hq hy hyk hlb).mono fun _ _ ⟨h1, h2, h3⟩ => ⟨h1, _, h2, ok.name _ _ _, bd_name _ _ _ _, h3⟩
  by_cases e37 : k = 37
  · subst e37
    exact (do_list C M ok few fd n y lb p q hfd hn16 hp hq hy hyk hlb).mono fun _ _ ⟨h1, h2, h3⟩ => ⟨h1, _, h2, ok.name _ _ _, bd_name _ _ _ _, h3⟩
  by_cases e29 : k = 29
  · subst e29
    exact (do_read C M ok few fd n y p q hfd hn16 hp hq).mono fun _ _ ⟨h1, h2, h3⟩ => ⟨h1, _, h2, ok.read _ _, bd_read _ _ _, h3⟩
  exact (do_data C M ok few k (fun c hc => by simp only [List.mem_cons, List.not_mem_nil, or_false] at hc; omega) fd n y p q hfd hn16 hp hq).mono fun _ _ ⟨h1, h2, h3⟩ => ⟨h1, _, h2, ok, bd_same _, h3⟩
end Go.Proofs.Ytckoapfmfpmdgaa

namespace Go.Proofs.Ytckoapfmfpmdgaa
open Go.ChangeShapes Go.WideShapes Go.ChangeAt Go.RowKit Go.Joins
set_option linter.unusedVariables false

section
variable {H : Type} {enc : TypeId × Value → H} {W : World}
def EntsN (W : World) (v : Value) : Prop := ∃ es : List (List UInt8 × Bool), EntAt W v es ∧ es.length ≤ 9223372036854775807
theorem cellsEnt : Try.prog.cellsOf 44 = 3 := by kernel_rfl
theorem cellsStr1 : Try.prog.cellsOf 9 = 1 := by kernel_rfl
theorem cellsBool1 : Try.prog.cellsOf 4 = 1 := by kernel_rfl
set_option maxRecDepth 100000 in
theorem entsn_open {base : Nat} {v : Value} {d : DataW H} {p : List MemPlace} (hok : Value.okWide Try.prog W .any base 22 v) (h : DataW.Trod enc Try.prog W 0 (fun _ => true) true 22 v d p) : EntsN W v := by
  obtain ⟨a0, len0, cap0, rfl⟩ := okWide_slice Try.underlying22 hok
  obtain ⟨fuel, hf⟩ := h
  obtain ⟨A, l, cap, e, h1, h2, _, h3⟩ := slice_open (fun (z : List UInt8 × Bool) cs => ∃ c : Int, cs = [.string (bs z.1), .bool z.2, .int .i64 c]) Try.underlying22 cellsEnt (by decide) (fun n cs x hx => by
    obtain ⟨y0, y1, y2, m, _, hlen, f0, f1, f2⟩ := Deep.trod_struct3 Try.underlying44 hx
    rw [cellsEnt] at hlen
    match cs, hlen with
    | [c0, c1, c2], _ =>
      have g0 : DataW.trod enc Try.prog W 0 (fun _ => true) true m 9 (([c0, c1, c2].drop 0).take (Try.prog.cellsOf 9)) = some y0 := f0
      have g1 : DataW.trod enc Try.prog W 0 (fun _ => true) true m 4 (([c0, c1, c2].drop 1).take (Try.prog.cellsOf 4)) = some y1 := f1
      have g2 : DataW.trod enc Try.prog W 0 (fun _ => true) true m 3 (([c0, c1, c2].drop 2).take (Try.prog.cellsOf 3)) = some y2 := f2
      rw [cellsStr1] at g0
      rw [cellsBool1] at g1
      rw [show Try.prog.cellsOf 3 = 1 by kernel_rfl] at g2
      obtain ⟨z0, e0, _⟩ := DataW.trod_string Try.underlying9 g0
      obtain ⟨z1, e1, _⟩ := DataW.trod_bool Try.underlying4 g1
      obtain ⟨z2, e2, _⟩ := DataW.trod_int Try.underlying3 g2
      simp at e0 e1 e2
      subst e0 e1 e2
      exact ⟨rfl, (z0.data.toList, z1), z2, by rw [bs_self]⟩) (v := .slice a0 len0 cap0) hf
  refine ⟨l, ⟨A, cap, e, fun i z hz => ?_⟩, by omega⟩
  obtain ⟨cs, ⟨c, rfl⟩, _, g, off, hA, hg, hc⟩ := h3 i z hz
  exact ⟨g, off, hA, hc 0 _ rfl, hc 1 _ rfl, c, hc 2 _ rfl⟩
end
end Go.Proofs.Ytckoapfmfpmdgaa
