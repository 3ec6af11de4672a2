/-
  Parts of the proof, joined: FileYd, FileYe, FileYf.
-/
import Derived.Test.YtckoapfmfpmdgaaMp29
import Derived.Deep.RegionLaw
import Derived.Test.YtckoapfmfpmdgaaMp30

namespace Go.Proofs.Ytckoapfmfpmdgaa
open Go.ChangeShapes Go.WideShapes Go.ChangeAt Go.RowKit Go.Joins
set_option linter.unusedVariables false
set_option linter.unusedSimpArgs false

set_option maxRecDepth 100000 in
set_option maxHeartbeats 8000000 in
theorem do_write {T : FP} (C : FilesC T) {bz g : Nat} {K : Nat → Prop} {w : World} {v : Value} {s : Fs} (M : Fp T bz K w v g s s) (ok : FOk s) (few : Few s) (fd n : Nat) (y : Value) (lb : List UInt8) (p q : ByteArray) (hfd : fd ≤ 65535) (hn16 : n ≤ 65535) (hp : p.size ≤ 140737488351232) (hq : q.size ≤ 140737488351232) (hy : BtA w y lb) (hyk : ∀ j, Bk y j → K j) (hlb : lb.length ≤ 4611686018427387904) :
    Calls Try.prog 32 #[v, .pointer (some ⟨g, 0, none⟩), .agg (ddC 30 fd n y p q)] w fun e w' => e = .returned (.bool true) ∧ Fp T bz K w' v g (writeF s fd lb).2 (writeF s fd lb).2 ∧ Sm K w w' := by
  have G0 := Gw.alloc w (.cells (ddC 30 fd n y p q) 75)
  have M0 := Lib.hid ((M.box C (.cells (ddC 30 fd n y p q) 75)).on C (Gw.refl _).drew)
  have S0 := Lib.hid (M.sm (G0.trans (Gw.refl _).drew))
  have hw0 : (w.alloc (.cells (ddC 30 fd n y p q) 75)).drew.heap[w.heap.size]? = some (.cells (ddC 30 fd n y p q) 75) := heap_alloc_new w _
  have hcell := fun w' (S : Sm (fun k => K k ∨ k = w.heap.size) (w.alloc (.cells (ddC 30 fd n y p q) 75)).drew w') => dd_cells hw0 S
  have hc0 : Hid _ := Lib.hid (dd_cells (K := K) (w1 := w.alloc (.cells (ddC 30 fd n y p q) 75)) (heap_alloc_new w _) (Sm.refl _ _))
  obtain ⟨c0, c1, c2, c3, c4, c5⟩ := hc0.out
  obtain ⟨d0, d1, d2, d3, d4, d5⟩ := hcell _ (Sm.refl _ _)
  have hy := hy.on (G0.trans (Gw.refl _).drew)
  have A1 := yt_write C M0.out ok few fd y lb hfd (hy.sm (K := fun j => K j ∨ j = w.heap.size) (fun j hj => .inl (hyk j hj)) (Sm.refl _ _)) hlb
  have B1 := ym_write C M0.out fd y lb hfd (hy.sm (K := fun j => K j ∨ j = w.heap.size) (fun j hj => .inl (hyk j hj)) (Sm.refl _ _))
  obtain ⟨r, hr⟩ : ∃ r, r = writeF s fd lb := ⟨_, rfl⟩
  rw [← hr] at A1 B1 ⊢
  have HR := Lib.hid hr
  clear hr
  obtain ⟨r1, s'⟩ := r
  have HM := Lib.hid M
  clear hc0 M
  unfold ddC at *
  go_enter Try.func32, Try.ntmps32
  go_upto_region 11 with fail
  go_region_law (first
    | (rw [if_pos (by rfl)]; go_simp; go_at_call 37; with_reducible refine A1.mono ?_; rintro e wa ⟨rfl, HA, SX⟩; obtain ⟨k0, k1, k2, k3, k4, k5⟩ := hcell _ SX; have B2 := ym_write C HA fd y lb hfd (hy.sm (K := fun j => K j ∨ j = w.heap.size) (fun j hj => .inl (hyk j hj)) SX); rw [← HR.out] at B2)
    | (rw [if_pos (by rfl)]; go_simp; go_at_call 62; with_reducible refine B1.mono ?_; rintro e wb ⟨rfl, HB, SX⟩; obtain ⟨k0, k1, k2, k3, k4, k5⟩ := hcell _ SX; have A2 := yt_write C HB ok few fd y lb hfd (hy.sm (K := fun j => K j ∨ j = w.heap.size) (fun j hj => .inl (hyk j hj)) SX) hlb; rw [← HR.out] at A2)
    | (rw [if_pos (by rfl)]; go_simp; go_at_call 62; with_reducible refine B2.mono ?_; rintro e wc ⟨rfl, HE, SE⟩)
    | (rw [if_pos (by rfl)]; go_simp; go_at_call 37; with_reducible refine A2.mono ?_; rintro e wc ⟨rfl, HE, SE⟩))
  all_goals (
    go_wp2
    go_ret
    exact ⟨by first | rfl | (simp; done) | go_simp, HE.less (fun j hj => .inl hj) HM.out.kb, S0.out.trans ((SX.trans SE).less (fun j hj => .inl hj))⟩)
end Go.Proofs.Ytckoapfmfpmdgaa

namespace Go.Proofs.Ytckoapfmfpmdgaa
open Go.ChangeShapes Go.WideShapes Go.ChangeAt Go.RowKit Go.Joins
set_option linter.unusedVariables false
set_option linter.unusedSimpArgs false

def mk_do_unlink (v : Value) (g d : Nat) (ag : Value) (x : Nat → Value) : Act := { tmps := #[v, .pointer (some ⟨g, 0, none⟩), ag, undef, undef, .pointer (some ⟨d, 0, none⟩), x 13, undef, undef, undef, undef, undef, undef, undef, undef, .pointer (some ⟨d, 0, none⟩), .int .i64 33, .bool false, .bool false, undef, undef, undef, undef, undef, undef, undef, undef, undef, .bool false, .bool false, undef, undef, undef, undef, undef, undef, undef, undef, undef, .bool false, .bool false, undef, undef, undef, undef, undef, undef, undef, undef, undef, undef, undef, undef, undef, undef, undef, undef, undef, undef, undef, undef, undef, undef, undef, undef, undef, undef, undef, undef, .bool false, .bool false, undef, undef, undef, undef, undef, undef, undef, undef, undef, undef, undef, undef, undef, .bool false, .bool false, undef, undef, undef, undef, undef, undef, undef, undef, undef, undef, undef, undef, undef, .bool false, .bool false, undef, undef, undef, undef, undef, undef, undef, undef, undef, .bool false, .bool false, undef, undef, undef, undef, undef, undef, undef, undef, undef, undef, undef, undef, undef, .bool false, .bool false, undef, undef, undef, undef, undef, undef, undef, undef, undef, .bool true, .bool true, x 0, x 1, x 2, x 3, x 4, x 5, x 6, x 7, x 8, x 9, x 10, x 11, x 12, undef, undef, undef, undef, undef, undef, undef, undef, undef, undef, undef, undef, undef, undef, undef, undef, undef, undef, undef, undef, undef, undef, undef, undef, undef, undef, undef, undef, undef, undef, undef, undef, undef, undef, undef, undef, undef, undef, undef, undef, undef, undef, undef, undef, undef, undef, undef, undef, undef, undef, undef, undef, undef, undef, undef, undef, undef, undef, undef, undef, undef, undef, undef, undef, undef, undef, undef, undef, undef, undef, undef, undef, undef, undef, undef, undef, undef, undef, undef, undef, undef, undef, undef, undef, undef, undef], defers := [] }
set_option maxRecDepth 100000 in
set_option maxHeartbeats 8000000 in
theorem do_unlink {T : FP} (C : FilesC T) {bz g : Nat} {K : Nat → Prop} {w : World} {v : Value} {s : Fs} (M : Fp T bz K w v g s s) (ok : FOk s) (few : Few s) (fd n : Nat) (y : Value) (lb : List UInt8) (p q : ByteArray) (hfd : fd ≤ 65535) (hn16 : n ≤ 65535) (hp : p.size ≤ 140737488351232) (hq : q.size ≤ 140737488351232) (hy : BtA w y lb) (hyk : ∀ j, Bk y j → K j) (hlb : lb.length ≤ 4611686018427387904) :
    Calls Try.prog 32 #[v, .pointer (some ⟨g, 0, none⟩), .agg (ddC 33 fd n y p q)] w fun e w' => e = .returned (.bool true) ∧ Fp T bz K w' v g (nameF s 33 p.data.toList []).2 (nameF s 33 p.data.toList []).2 ∧ Sm K w w' := by
  have G0 := Gw.alloc w (.cells (ddC 33 fd n y p q) 75)
  have M0 := Lib.hid ((M.box C (.cells (ddC 33 fd n y p q) 75)).on C (Gw.refl _).drew)
  have S0 := Lib.hid (M.sm (G0.trans (Gw.refl _).drew))
  have hw0 : (w.alloc (.cells (ddC 33 fd n y p q) 75)).drew.heap[w.heap.size]? = some (.cells (ddC 33 fd n y p q) 75) := heap_alloc_new w _
  have hcell := fun w' (S : Sm (fun k => K k ∨ k = w.heap.size) (w.alloc (.cells (ddC 33 fd n y p q) 75)).drew w') => dd_cells hw0 S
  have hc0 : Hid _ := Lib.hid (dd_cells (K := K) (w1 := w.alloc (.cells (ddC 33 fd n y p q) 75)) (heap_alloc_new w _) (Sm.refl _ _))
  obtain ⟨c0, c1, c2, c3, c4, c5⟩ := hc0.out
  obtain ⟨d0, d1, d2, d3, d4, d5⟩ := hcell _ (Sm.refl _ _)
  have A1 := yt_unlink C M0.out ok few p hp
  have B1 := ym_name C M0.out ok few 33 p q hp hq
  rw [name_q 33 (by decide)] at B1
  obtain ⟨r, hr⟩ : ∃ r, r = nameF s 33 p.data.toList [] := ⟨_, rfl⟩
  rw [← hr] at A1 B1 ⊢
  have HR := Lib.hid hr
  clear hr
  obtain ⟨r1, s'⟩ := r
  have HM := Lib.hid M
  clear hc0 M
  unfold ddC at *
  go_enter Try.func32, Try.ntmps32
  go_upto_region 21 with fail
  show (Code.region 21 _ true).wp _ _ (mk_do_unlink v g w.heap.size (.agg #[.int .i64 33, .int .u16 (fd : Int), .int .u16 (n : Int), y, .string p, .string q]) (fun k => if k = 13 then .bool false else undef)) _
  refine region_known (mk := mk_do_unlink v g w.heap.size (.agg #[.int .i64 33, .int .u16 (fd : Int), .int .u16 (n : Int), y, .string p, .string q])) (val := fun j => ([v, .pointer (some ⟨w.heap.size, 4, none⟩), .string p, .int .u16 r1, .pointer (some ⟨g, 0, none⟩), .pointer (some ⟨w.heap.size, 0, none⟩), .int .i64 33, .pointer (some ⟨w.heap.size, 4, none⟩), .string p, .pointer (some ⟨w.heap.size, 5, none⟩), .string q, .int .u16 r1, .bool true, .bool true] : List Value).getD j undef) (S := fun b1 b2 wc => Fp T bz (fun k => K k ∨ k = w.heap.size) wc v g (if b1 = true then s' else s) (if b2 = true then s' else s) ∧ Sm (fun k => K k ∨ k = w.heap.size) (w.alloc (.cells #[.int .i64 33, .int .u16 (fd : Int), .int .u16 (n : Int), y, .string p, .string q] 75)).drew wc) (n := 14) (c1 := 3) (c2 := 11) ?_ (by kernel_rfl) (by decide) (by decide) ?_ ?_ ?_ ?_ ?_ ?_
  · rfl
  · exact vops_guard (by decide +kernel)
  · exact vops_wf (by decide +kernel)
  · exact ⟨M0.out, Sm.refl _ _⟩
  · intro i o' u z ho
    have hi : i < 14 := (Array.getElem?_eq_some_iff.1 ho).1
    rcases (by omega : i = 0 ∨ i = 1 ∨ i = 2 ∨ i = 3 ∨ i = 4 ∨ i = 5 ∨ i = 6 ∨ i = 7 ∨ i = 8 ∨ i = 9 ∨ i = 10 ∨ i = 11 ∨ i = 12 ∨ i = 13) with rfl | rfl | rfl | rfl | rfl | rfl | rfl | rfl | rfl | rfl | rfl | rfl | rfl | rfl
    all_goals (cases ho; rfl)
  · intro i o' u b1 b2 wc ho hb1 hb2 hS hdep K2 hK
    have hi : i < 14 := (Array.getElem?_eq_some_iff.1 ho).1
    rcases (by omega : i = 0 ∨ i = 1 ∨ i = 2 ∨ i = 3 ∨ i = 4 ∨ i = 5 ∨ i = 6 ∨ i = 7 ∨ i = 8 ∨ i = 9 ∨ i = 10 ∨ i = 11 ∨ i = 12 ∨ i = 13) with rfl | rfl | rfl | rfl | rfl | rfl | rfl | rfl | rfl | rfl | rfl | rfl | rfl | rfl
    · cases ho
      have e90 : (mk_do_unlink v g w.heap.size (.agg #[.int .i64 33, .int .u16 (fd : Int), .int .u16 (n : Int), y, .string p, .string q]) u).tmps[0]?.getD undef = v := rfl
      refine vop_val (v := v) (w' := wc) (by go_simp) ?_
      exact hK wc (by rw [show (b1 || (0 : Nat) == 3) = b1 from Bool.or_false _, show (b2 || (0 : Nat) == 11) = b2 from Bool.or_false _]; exact hS)
    · cases ho
      have e90 : (mk_do_unlink v g w.heap.size (.agg #[.int .i64 33, .int .u16 (fd : Int), .int .u16 (n : Int), y, .string p, .string q]) u).tmps[5]?.getD undef = .pointer (some ⟨w.heap.size, 0, none⟩) := rfl
      refine vop_val (v := .pointer (some ⟨w.heap.size, 4, none⟩)) (w' := wc) (by go_simp) ?_
      exact hK wc (by rw [show (b1 || (1 : Nat) == 3) = b1 from Bool.or_false _, show (b2 || (1 : Nat) == 11) = b2 from Bool.or_false _]; exact hS)
    · cases ho
      have e1 : (mk_do_unlink v g w.heap.size (.agg #[.int .i64 33, .int .u16 (fd : Int), .int .u16 (n : Int), y, .string p, .string q]) u).tmps[139]?.getD undef = .pointer (some ⟨w.heap.size, 4, none⟩) := hdep ⟨1, .data⟩ (by simp) rfl
      obtain ⟨k0, k1, k2, k3, k4, k5⟩ := hcell _ hS.2
      refine vop_val (v := .string p) (w' := wc) (by go_simp) ?_
      exact hK wc (by rw [show (b1 || (2 : Nat) == 3) = b1 from Bool.or_false _, show (b2 || (2 : Nat) == 11) = b2 from Bool.or_false _]; exact hS)
    · cases ho
      have e0 : (mk_do_unlink v g w.heap.size (.agg #[.int .i64 33, .int .u16 (fd : Int), .int .u16 (n : Int), y, .string p, .string q]) u).tmps[138]?.getD undef = v := hdep ⟨0, .data⟩ (by simp) rfl
      have e2 : (mk_do_unlink v g w.heap.size (.agg #[.int .i64 33, .int .u16 (fd : Int), .int .u16 (n : Int), y, .string p, .string q]) u).tmps[140]?.getD undef = .string p := hdep ⟨2, .data⟩ (by simp) rfl
      obtain rfl : b1 = false := hb1 rfl
      have A2 := yt_unlink C (show Fp T bz (fun k => K k ∨ k = w.heap.size) wc v g s (if b2 = true then s' else s) from hS.1) ok few p hp
      rw [← HR.out] at A2
      refine vop_enter (f := 39) (args := #[v, .string p]) (by go_simp) ?_
      refine A2.mono ?_
      rintro e wa ⟨rfl, HA, SX⟩
      exact hK wa (by rw [show (false || (3 : Nat) == 3) = true from rfl, show (b2 || (3 : Nat) == 11) = b2 from Bool.or_false _, if_pos (rfl : true = true)]; exact ⟨HA, hS.2.trans SX⟩)
    · cases ho
      have e90 : (mk_do_unlink v g w.heap.size (.agg #[.int .i64 33, .int .u16 (fd : Int), .int .u16 (n : Int), y, .string p, .string q]) u).tmps[1]?.getD undef = .pointer (some ⟨g, 0, none⟩) := rfl
      refine vop_val (v := .pointer (some ⟨g, 0, none⟩)) (w' := wc) (by go_simp) ?_
      exact hK wc (by rw [show (b1 || (4 : Nat) == 3) = b1 from Bool.or_false _, show (b2 || (4 : Nat) == 11) = b2 from Bool.or_false _]; exact hS)
    · cases ho
      have e90 : (mk_do_unlink v g w.heap.size (.agg #[.int .i64 33, .int .u16 (fd : Int), .int .u16 (n : Int), y, .string p, .string q]) u).tmps[5]?.getD undef = .pointer (some ⟨w.heap.size, 0, none⟩) := rfl
      refine vop_val (v := .pointer (some ⟨w.heap.size, 0, none⟩)) (w' := wc) (by go_simp) ?_
      exact hK wc (by rw [show (b1 || (5 : Nat) == 3) = b1 from Bool.or_false _, show (b2 || (5 : Nat) == 11) = b2 from Bool.or_false _]; exact hS)
    · cases ho
      have e5 : (mk_do_unlink v g w.heap.size (.agg #[.int .i64 33, .int .u16 (fd : Int), .int .u16 (n : Int), y, .string p, .string q]) u).tmps[143]?.getD undef = .pointer (some ⟨w.heap.size, 0, none⟩) := hdep ⟨5, .data⟩ (by simp) rfl
      obtain ⟨k0, k1, k2, k3, k4, k5⟩ := hcell _ hS.2
      refine vop_val (v := .int .i64 33) (w' := wc) (by go_simp) ?_
      exact hK wc (by rw [show (b1 || (6 : Nat) == 3) = b1 from Bool.or_false _, show (b2 || (6 : Nat) == 11) = b2 from Bool.or_false _]; exact hS)
    · cases ho
      have e90 : (mk_do_unlink v g w.heap.size (.agg #[.int .i64 33, .int .u16 (fd : Int), .int .u16 (n : Int), y, .string p, .string q]) u).tmps[5]?.getD undef = .pointer (some ⟨w.heap.size, 0, none⟩) := rfl
      refine vop_val (v := .pointer (some ⟨w.heap.size, 4, none⟩)) (w' := wc) (by go_simp) ?_
      exact hK wc (by rw [show (b1 || (7 : Nat) == 3) = b1 from Bool.or_false _, show (b2 || (7 : Nat) == 11) = b2 from Bool.or_false _]; exact hS)
    · cases ho
      have e7 : (mk_do_unlink v g w.heap.size (.agg #[.int .i64 33, .int .u16 (fd : Int), .int .u16 (n : Int), y, .string p, .string q]) u).tmps[145]?.getD undef = .pointer (some ⟨w.heap.size, 4, none⟩) := hdep ⟨7, .data⟩ (by simp) rfl
      obtain ⟨k0, k1, k2, k3, k4, k5⟩ := hcell _ hS.2
      refine vop_val (v := .string p) (w' := wc) (by go_simp) ?_
      exact hK wc (by rw [show (b1 || (8 : Nat) == 3) = b1 from Bool.or_false _, show (b2 || (8 : Nat) == 11) = b2 from Bool.or_false _]; exact hS)
    · cases ho
      have e90 : (mk_do_unlink v g w.heap.size (.agg #[.int .i64 33, .int .u16 (fd : Int), .int .u16 (n : Int), y, .string p, .string q]) u).tmps[5]?.getD undef = .pointer (some ⟨w.heap.size, 0, none⟩) := rfl
      refine vop_val (v := .pointer (some ⟨w.heap.size, 5, none⟩)) (w' := wc) (by go_simp) ?_
      exact hK wc (by rw [show (b1 || (9 : Nat) == 3) = b1 from Bool.or_false _, show (b2 || (9 : Nat) == 11) = b2 from Bool.or_false _]; exact hS)
    · cases ho
      have e9 : (mk_do_unlink v g w.heap.size (.agg #[.int .i64 33, .int .u16 (fd : Int), .int .u16 (n : Int), y, .string p, .string q]) u).tmps[147]?.getD undef = .pointer (some ⟨w.heap.size, 5, none⟩) := hdep ⟨9, .data⟩ (by simp) rfl
      obtain ⟨k0, k1, k2, k3, k4, k5⟩ := hcell _ hS.2
      refine vop_val (v := .string q) (w' := wc) (by go_simp) ?_
      exact hK wc (by rw [show (b1 || (10 : Nat) == 3) = b1 from Bool.or_false _, show (b2 || (10 : Nat) == 11) = b2 from Bool.or_false _]; exact hS)
    · cases ho
      have e4 : (mk_do_unlink v g w.heap.size (.agg #[.int .i64 33, .int .u16 (fd : Int), .int .u16 (n : Int), y, .string p, .string q]) u).tmps[142]?.getD undef = .pointer (some ⟨g, 0, none⟩) := hdep ⟨4, .data⟩ (by simp) rfl
      have e6 : (mk_do_unlink v g w.heap.size (.agg #[.int .i64 33, .int .u16 (fd : Int), .int .u16 (n : Int), y, .string p, .string q]) u).tmps[144]?.getD undef = .int .i64 33 := hdep ⟨6, .data⟩ (by simp) rfl
      have e8 : (mk_do_unlink v g w.heap.size (.agg #[.int .i64 33, .int .u16 (fd : Int), .int .u16 (n : Int), y, .string p, .string q]) u).tmps[146]?.getD undef = .string p := hdep ⟨8, .data⟩ (by simp) rfl
      have e10 : (mk_do_unlink v g w.heap.size (.agg #[.int .i64 33, .int .u16 (fd : Int), .int .u16 (n : Int), y, .string p, .string q]) u).tmps[148]?.getD undef = .string q := hdep ⟨10, .data⟩ (by simp) rfl
      obtain rfl : b2 = false := hb2 rfl
      have B2 := ym_name C (show Fp T bz (fun k => K k ∨ k = w.heap.size) wc v g (if b1 = true then s' else s) s from hS.1) ok few 33 p q hp hq
      rw [name_q 33 (by decide)] at B2
      rw [← HR.out] at B2
      refine vop_enter (f := 67) (args := #[.pointer (some ⟨g, 0, none⟩), .int .i64 33, .string p, .string q]) (by go_simp) ?_
      refine B2.mono ?_
      rintro e wa ⟨rfl, HA, SX⟩
      exact hK wa (by rw [show (false || (11 : Nat) == 11) = true from rfl, show (b1 || (11 : Nat) == 3) = b1 from Bool.or_false _, if_pos (rfl : true = true)]; exact ⟨HA, hS.2.trans SX⟩)
    · cases ho
      have e3 : (mk_do_unlink v g w.heap.size (.agg #[.int .i64 33, .int .u16 (fd : Int), .int .u16 (n : Int), y, .string p, .string q]) u).tmps[141]?.getD undef = .int .u16 r1 := hdep ⟨3, .data⟩ (by simp) rfl
      have e11 : (mk_do_unlink v g w.heap.size (.agg #[.int .i64 33, .int .u16 (fd : Int), .int .u16 (n : Int), y, .string p, .string q]) u).tmps[149]?.getD undef = .int .u16 r1 := hdep ⟨11, .data⟩ (by simp) rfl
      refine vop_val (v := .bool true) (w' := wc) (by go_simp) ?_
      exact hK wc (by rw [show (b1 || (12 : Nat) == 3) = b1 from Bool.or_false _, show (b2 || (12 : Nat) == 11) = b2 from Bool.or_false _]; exact hS)
    · cases ho
      have e12 : (mk_do_unlink v g w.heap.size (.agg #[.int .i64 33, .int .u16 (fd : Int), .int .u16 (n : Int), y, .string p, .string q]) u).tmps[150]?.getD undef = .bool true := hdep ⟨12, .data⟩ (by simp) rfl
      refine vop_val (v := .bool true) (w' := wc) (by go_simp) ?_
      exact hK wc (by rw [show (b1 || (13 : Nat) == 3) = b1 from Bool.or_false _, show (b2 || (13 : Nat) == 11) = b2 from Bool.or_false _]; exact hS)
  · intro u wc hv hS
    have h15 : u 13 = .bool true := hv 13 (by decide)
    dsimp only [mk_do_unlink]
    rw [h15]
    clear hv h15
    have HS9 := Lib.hid hS
    clear hS
    go_wp2
    go_ret
    exact ⟨rfl, HS9.out.1.less (fun j hj => .inl hj) HM.out.kb, S0.out.trans (HS9.out.2.less (fun j hj => .inl hj))⟩
end Go.Proofs.Ytckoapfmfpmdgaa

namespace Go.Proofs.Ytckoapfmfpmdgaa
open Go.ChangeShapes Go.WideShapes Go.ChangeAt Go.RowKit Go.Joins
set_option linter.unusedVariables false
set_option linter.unusedSimpArgs false

def mkRn (v : Value) (g d : Nat) (ag : Value) (x : Nat → Value) : Act := { tmps := #[v, .pointer (some ⟨g, 0, none⟩), ag, undef, undef, .pointer (some ⟨d, 0, none⟩), x 15, undef, undef, undef, undef, undef, undef, undef, undef, .pointer (some ⟨d, 0, none⟩), .int .i64 34, .bool false, .bool false, undef, undef, undef, undef, undef, undef, undef, undef, undef, .bool false, .bool false, undef, undef, undef, undef, undef, undef, undef, undef, undef, .bool false, .bool false, undef, undef, undef, undef, undef, undef, undef, undef, undef, undef, undef, undef, undef, undef, undef, undef, undef, undef, undef, undef, undef, undef, undef, undef, undef, undef, undef, undef, .bool false, .bool false, undef, undef, undef, undef, undef, undef, undef, undef, undef, undef, undef, undef, undef, .bool false, .bool false, undef, undef, undef, undef, undef, undef, undef, undef, undef, undef, undef, undef, undef, .bool false, .bool false, undef, undef, undef, undef, undef, undef, undef, undef, undef, .bool false, .bool false, undef, undef, undef, undef, undef, undef, undef, undef, undef, undef, undef, undef, undef, .bool false, .bool false, undef, undef, undef, undef, undef, undef, undef, undef, undef, .bool false, .bool false, undef, undef, undef, undef, undef, undef, undef, undef, undef, undef, undef, undef, undef, .bool true, .bool true, x 0, x 1, x 2, x 3, x 4, x 5, x 6, x 7, x 8, x 9, x 10, x 11, x 12, x 13, x 14, undef, undef, undef, undef, undef, undef, undef, undef, undef, undef, undef, undef, undef, undef, undef, undef, undef, undef, undef, undef, undef, undef, undef, undef, undef, undef, undef, undef, undef, undef, undef, undef, undef, undef, undef, undef, undef, undef, undef, undef, undef, undef, undef, undef, undef, undef, undef, undef, undef, undef, undef, undef, undef, undef, undef, undef, undef, undef, undef, undef, undef, undef, undef, undef, undef, undef, undef, undef, undef], defers := [] }
set_option maxRecDepth 100000 in
set_option maxHeartbeats 8000000 in
theorem do_rename {T : FP} (C : FilesC T) {bz g : Nat} {K : Nat → Prop} {w : World} {v : Value} {s : Fs} (M : Fp T bz K w v g s s) (ok : FOk s) (few : Few s) (fd n : Nat) (y : Value) (lb : List UInt8) (p q : ByteArray) (hfd : fd ≤ 65535) (hn16 : n ≤ 65535) (hp : p.size ≤ 140737488351232) (hq : q.size ≤ 140737488351232) (hy : BtA w y lb) (hyk : ∀ j, Bk y j → K j) (hlb : lb.length ≤ 4611686018427387904) :
    Calls Try.prog 32 #[v, .pointer (some ⟨g, 0, none⟩), .agg (ddC 34 fd n y p q)] w fun e w' => e = .returned (.bool true) ∧ Fp T bz K w' v g (nameF s 34 p.data.toList q.data.toList).2 (nameF s 34 p.data.toList q.data.toList).2 ∧ Sm K w w' := by
  have G0 := Gw.alloc w (.cells (ddC 34 fd n y p q) 75)
  have M0 := Lib.hid ((M.box C (.cells (ddC 34 fd n y p q) 75)).on C (Gw.refl _).drew)
  have S0 := Lib.hid (M.sm (G0.trans (Gw.refl _).drew))
  have hw0 : (w.alloc (.cells (ddC 34 fd n y p q) 75)).drew.heap[w.heap.size]? = some (.cells (ddC 34 fd n y p q) 75) := heap_alloc_new w _
  have hcell := fun w' (S : Sm (fun k => K k ∨ k = w.heap.size) (w.alloc (.cells (ddC 34 fd n y p q) 75)).drew w') => dd_cells hw0 S
  have hc0 : Hid _ := Lib.hid (dd_cells (K := K) (w1 := w.alloc (.cells (ddC 34 fd n y p q) 75)) (heap_alloc_new w _) (Sm.refl _ _))
  obtain ⟨c0, c1, c2, c3, c4, c5⟩ := hc0.out
  obtain ⟨d0, d1, d2, d3, d4, d5⟩ := hcell _ (Sm.refl _ _)
  have A1 := yt_rename C M0.out ok few p q hp hq
  have B1 := ym_name C M0.out ok few 34 p q hp hq
  obtain ⟨r, hr⟩ : ∃ r, r = nameF s 34 p.data.toList q.data.toList := ⟨_, rfl⟩
  rw [← hr] at A1 B1 ⊢
  have HR := Lib.hid hr
  clear hr
  obtain ⟨r1, s'⟩ := r
  have HM := Lib.hid M
  clear hc0 M
  unfold ddC at *
  go_enter Try.func32, Try.ntmps32
  go_upto_region 23 with fail
  show (Code.region 23 _ true).wp _ _ (mkRn v g w.heap.size (.agg #[.int .i64 34, .int .u16 (fd : Int), .int .u16 (n : Int), y, .string p, .string q]) (fun k => if k = 15 then .bool false else undef)) _
  refine region_known (mk := mkRn v g w.heap.size (.agg #[.int .i64 34, .int .u16 (fd : Int), .int .u16 (n : Int), y, .string p, .string q])) (val := fun j => ([v, .pointer (some ⟨w.heap.size, 4, none⟩), .string p, .pointer (some ⟨w.heap.size, 5, none⟩), .string q, .int .u16 r1, .pointer (some ⟨g, 0, none⟩), .pointer (some ⟨w.heap.size, 0, none⟩), .int .i64 34, .pointer (some ⟨w.heap.size, 4, none⟩), .string p, .pointer (some ⟨w.heap.size, 5, none⟩), .string q, .int .u16 r1, .bool true, .bool true] : List Value).getD j undef) (S := fun b1 b2 wc => Fp T bz (fun k => K k ∨ k = w.heap.size) wc v g (if b1 = true then s' else s) (if b2 = true then s' else s) ∧ Sm (fun k => K k ∨ k = w.heap.size) (w.alloc (.cells #[.int .i64 34, .int .u16 (fd : Int), .int .u16 (n : Int), y, .string p, .string q] 75)).drew wc) (n := 16) (c1 := 5) (c2 := 13) ?_ (by kernel_rfl) (by decide) (by decide) ?_ ?_ ?_ ?_ ?_ ?_
  · rfl
  · exact vops_guard (by decide +kernel)
  · exact vops_wf (by decide +kernel)
  · exact ⟨M0.out, Sm.refl _ _⟩
  · intro i o' u z ho
    have hi : i < 16 := (Array.getElem?_eq_some_iff.1 ho).1
    rcases (by omega : i = 0 ∨ i = 1 ∨ i = 2 ∨ i = 3 ∨ i = 4 ∨ i = 5 ∨ i = 6 ∨ i = 7 ∨ i = 8 ∨ i = 9 ∨ i = 10 ∨ i = 11 ∨ i = 12 ∨ i = 13 ∨ i = 14 ∨ i = 15) with rfl | rfl | rfl | rfl | rfl | rfl | rfl | rfl | rfl | rfl | rfl | rfl | rfl | rfl | rfl | rfl
    all_goals (cases ho; rfl)
  · intro i o' u b1 b2 wc ho hb1 hb2 hS hdep K2 hK
    have hi : i < 16 := (Array.getElem?_eq_some_iff.1 ho).1
    rcases (by omega : i = 0 ∨ i = 1 ∨ i = 2 ∨ i = 3 ∨ i = 4 ∨ i = 5 ∨ i = 6 ∨ i = 7 ∨ i = 8 ∨ i = 9 ∨ i = 10 ∨ i = 11 ∨ i = 12 ∨ i = 13 ∨ i = 14 ∨ i = 15) with rfl | rfl | rfl | rfl | rfl | rfl | rfl | rfl | rfl | rfl | rfl | rfl | rfl | rfl | rfl | rfl
    · cases ho
      have e9 : (mkRn v g w.heap.size (.agg #[.int .i64 34, .int .u16 (fd : Int), .int .u16 (n : Int), y, .string p, .string q]) u).tmps[0]?.getD undef = v := rfl
      refine vop_val (v := v) (w' := wc) (by go_simp) ?_
      exact hK wc (by rw [show (b1 || (0 : Nat) == 5) = b1 from Bool.or_false _, show (b2 || (0 : Nat) == 13) = b2 from Bool.or_false _]; exact hS)
    · cases ho
      have e9 : (mkRn v g w.heap.size (.agg #[.int .i64 34, .int .u16 (fd : Int), .int .u16 (n : Int), y, .string p, .string q]) u).tmps[5]?.getD undef = .pointer (some ⟨w.heap.size, 0, none⟩) := rfl
      refine vop_val (v := .pointer (some ⟨w.heap.size, 4, none⟩)) (w' := wc) (by go_simp) ?_
      exact hK wc (by rw [show (b1 || (1 : Nat) == 5) = b1 from Bool.or_false _, show (b2 || (1 : Nat) == 13) = b2 from Bool.or_false _]; exact hS)
    · cases ho
      have e1 : (mkRn v g w.heap.size (.agg #[.int .i64 34, .int .u16 (fd : Int), .int .u16 (n : Int), y, .string p, .string q]) u).tmps[154]?.getD undef = .pointer (some ⟨w.heap.size, 4, none⟩) := hdep ⟨1, .data⟩ (by simp) rfl
      obtain ⟨k0, k1, k2, k3, k4, k5⟩ := hcell _ hS.2
      refine vop_val (v := .string p) (w' := wc) (by go_simp) ?_
      exact hK wc (by rw [show (b1 || (2 : Nat) == 5) = b1 from Bool.or_false _, show (b2 || (2 : Nat) == 13) = b2 from Bool.or_false _]; exact hS)
    · cases ho
      have e9 : (mkRn v g w.heap.size (.agg #[.int .i64 34, .int .u16 (fd : Int), .int .u16 (n : Int), y, .string p, .string q]) u).tmps[5]?.getD undef = .pointer (some ⟨w.heap.size, 0, none⟩) := rfl
      refine vop_val (v := .pointer (some ⟨w.heap.size, 5, none⟩)) (w' := wc) (by go_simp) ?_
      exact hK wc (by rw [show (b1 || (3 : Nat) == 5) = b1 from Bool.or_false _, show (b2 || (3 : Nat) == 13) = b2 from Bool.or_false _]; exact hS)
    · cases ho
      have e3 : (mkRn v g w.heap.size (.agg #[.int .i64 34, .int .u16 (fd : Int), .int .u16 (n : Int), y, .string p, .string q]) u).tmps[156]?.getD undef = .pointer (some ⟨w.heap.size, 5, none⟩) := hdep ⟨3, .data⟩ (by simp) rfl
      obtain ⟨k0, k1, k2, k3, k4, k5⟩ := hcell _ hS.2
      refine vop_val (v := .string q) (w' := wc) (by go_simp) ?_
      exact hK wc (by rw [show (b1 || (4 : Nat) == 5) = b1 from Bool.or_false _, show (b2 || (4 : Nat) == 13) = b2 from Bool.or_false _]; exact hS)
    · cases ho
      have e0 : (mkRn v g w.heap.size (.agg #[.int .i64 34, .int .u16 (fd : Int), .int .u16 (n : Int), y, .string p, .string q]) u).tmps[153]?.getD undef = v := hdep ⟨0, .data⟩ (by simp) rfl
      have e2 : (mkRn v g w.heap.size (.agg #[.int .i64 34, .int .u16 (fd : Int), .int .u16 (n : Int), y, .string p, .string q]) u).tmps[155]?.getD undef = .string p := hdep ⟨2, .data⟩ (by simp) rfl
      have e4 : (mkRn v g w.heap.size (.agg #[.int .i64 34, .int .u16 (fd : Int), .int .u16 (n : Int), y, .string p, .string q]) u).tmps[157]?.getD undef = .string q := hdep ⟨4, .data⟩ (by simp) rfl
      obtain rfl : b1 = false := hb1 rfl
      have A2 := yt_rename C (show Fp T bz (fun k => K k ∨ k = w.heap.size) wc v g s (if b2 = true then s' else s) from hS.1) ok few p q hp hq
      rw [← HR.out] at A2
      refine vop_enter (f := 43) (args := #[v, .string p, .string q]) (by go_simp) ?_
      refine A2.mono ?_
      rintro e wa ⟨rfl, HA, SX⟩
      exact hK wa (by rw [show (false || (5 : Nat) == 5) = true from rfl, show (b2 || (5 : Nat) == 13) = b2 from Bool.or_false _, if_pos rfl]; exact ⟨HA, hS.2.trans SX⟩)
    · cases ho
      have e9 : (mkRn v g w.heap.size (.agg #[.int .i64 34, .int .u16 (fd : Int), .int .u16 (n : Int), y, .string p, .string q]) u).tmps[1]?.getD undef = .pointer (some ⟨g, 0, none⟩) := rfl
      refine vop_val (v := .pointer (some ⟨g, 0, none⟩)) (w' := wc) (by go_simp) ?_
      exact hK wc (by rw [show (b1 || (6 : Nat) == 5) = b1 from Bool.or_false _, show (b2 || (6 : Nat) == 13) = b2 from Bool.or_false _]; exact hS)
    · cases ho
      have e9 : (mkRn v g w.heap.size (.agg #[.int .i64 34, .int .u16 (fd : Int), .int .u16 (n : Int), y, .string p, .string q]) u).tmps[5]?.getD undef = .pointer (some ⟨w.heap.size, 0, none⟩) := rfl
      refine vop_val (v := .pointer (some ⟨w.heap.size, 0, none⟩)) (w' := wc) (by go_simp) ?_
      exact hK wc (by rw [show (b1 || (7 : Nat) == 5) = b1 from Bool.or_false _, show (b2 || (7 : Nat) == 13) = b2 from Bool.or_false _]; exact hS)
    · cases ho
      have e7 : (mkRn v g w.heap.size (.agg #[.int .i64 34, .int .u16 (fd : Int), .int .u16 (n : Int), y, .string p, .string q]) u).tmps[160]?.getD undef = .pointer (some ⟨w.heap.size, 0, none⟩) := hdep ⟨7, .data⟩ (by simp) rfl
      obtain ⟨k0, k1, k2, k3, k4, k5⟩ := hcell _ hS.2
      refine vop_val (v := .int .i64 34) (w' := wc) (by go_simp) ?_
      exact hK wc (by rw [show (b1 || (8 : Nat) == 5) = b1 from Bool.or_false _, show (b2 || (8 : Nat) == 13) = b2 from Bool.or_false _]; exact hS)
    · cases ho
      have e9 : (mkRn v g w.heap.size (.agg #[.int .i64 34, .int .u16 (fd : Int), .int .u16 (n : Int), y, .string p, .string q]) u).tmps[5]?.getD undef = .pointer (some ⟨w.heap.size, 0, none⟩) := rfl
      refine vop_val (v := .pointer (some ⟨w.heap.size, 4, none⟩)) (w' := wc) (by go_simp) ?_
      exact hK wc (by rw [show (b1 || (9 : Nat) == 5) = b1 from Bool.or_false _, show (b2 || (9 : Nat) == 13) = b2 from Bool.or_false _]; exact hS)
    · cases ho
      have e9 : (mkRn v g w.heap.size (.agg #[.int .i64 34, .int .u16 (fd : Int), .int .u16 (n : Int), y, .string p, .string q]) u).tmps[162]?.getD undef = .pointer (some ⟨w.heap.size, 4, none⟩) := hdep ⟨9, .data⟩ (by simp) rfl
      obtain ⟨k0, k1, k2, k3, k4, k5⟩ := hcell _ hS.2
      refine vop_val (v := .string p) (w' := wc) (by go_simp) ?_
      exact hK wc (by rw [show (b1 || (10 : Nat) == 5) = b1 from Bool.or_false _, show (b2 || (10 : Nat) == 13) = b2 from Bool.or_false _]; exact hS)
    · cases ho
      have e9 : (mkRn v g w.heap.size (.agg #[.int .i64 34, .int .u16 (fd : Int), .int .u16 (n : Int), y, .string p, .string q]) u).tmps[5]?.getD undef = .pointer (some ⟨w.heap.size, 0, none⟩) := rfl
      refine vop_val (v := .pointer (some ⟨w.heap.size, 5, none⟩)) (w' := wc) (by go_simp) ?_
      exact hK wc (by rw [show (b1 || (11 : Nat) == 5) = b1 from Bool.or_false _, show (b2 || (11 : Nat) == 13) = b2 from Bool.or_false _]; exact hS)
    · cases ho
      have e11 : (mkRn v g w.heap.size (.agg #[.int .i64 34, .int .u16 (fd : Int), .int .u16 (n : Int), y, .string p, .string q]) u).tmps[164]?.getD undef = .pointer (some ⟨w.heap.size, 5, none⟩) := hdep ⟨11, .data⟩ (by simp) rfl
      obtain ⟨k0, k1, k2, k3, k4, k5⟩ := hcell _ hS.2
      refine vop_val (v := .string q) (w' := wc) (by go_simp) ?_
      exact hK wc (by rw [show (b1 || (12 : Nat) == 5) = b1 from Bool.or_false _, show (b2 || (12 : Nat) == 13) = b2 from Bool.or_false _]; exact hS)
    · cases ho
      have e6 : (mkRn v g w.heap.size (.agg #[.int .i64 34, .int .u16 (fd : Int), .int .u16 (n : Int), y, .string p, .string q]) u).tmps[159]?.getD undef = .pointer (some ⟨g, 0, none⟩) := hdep ⟨6, .data⟩ (by simp) rfl
      have e8 : (mkRn v g w.heap.size (.agg #[.int .i64 34, .int .u16 (fd : Int), .int .u16 (n : Int), y, .string p, .string q]) u).tmps[161]?.getD undef = .int .i64 34 := hdep ⟨8, .data⟩ (by simp) rfl
      have e10 : (mkRn v g w.heap.size (.agg #[.int .i64 34, .int .u16 (fd : Int), .int .u16 (n : Int), y, .string p, .string q]) u).tmps[163]?.getD undef = .string p := hdep ⟨10, .data⟩ (by simp) rfl
      have e12 : (mkRn v g w.heap.size (.agg #[.int .i64 34, .int .u16 (fd : Int), .int .u16 (n : Int), y, .string p, .string q]) u).tmps[165]?.getD undef = .string q := hdep ⟨12, .data⟩ (by simp) rfl
      obtain rfl : b2 = false := hb2 rfl
      have B2 := ym_name C (show Fp T bz (fun k => K k ∨ k = w.heap.size) wc v g (if b1 = true then s' else s) s from hS.1) ok few 34 p q hp hq
      rw [← HR.out] at B2
      refine vop_enter (f := 67) (args := #[.pointer (some ⟨g, 0, none⟩), .int .i64 34, .string p, .string q]) (by go_simp) ?_
      refine B2.mono ?_
      rintro e wa ⟨rfl, HA, SX⟩
      exact hK wa (by rw [show (false || (13 : Nat) == 13) = true from rfl, show (b1 || (13 : Nat) == 5) = b1 from Bool.or_false _, if_pos (rfl : true = true)]; exact ⟨HA, hS.2.trans SX⟩)
    · cases ho
      have e5 : (mkRn v g w.heap.size (.agg #[.int .i64 34, .int .u16 (fd : Int), .int .u16 (n : Int), y, .string p, .string q]) u).tmps[158]?.getD undef = .int .u16 r1 := hdep ⟨5, .data⟩ (by simp) rfl
      have e13 : (mkRn v g w.heap.size (.agg #[.int .i64 34, .int .u16 (fd : Int), .int .u16 (n : Int), y, .string p, .string q]) u).tmps[166]?.getD undef = .int .u16 r1 := hdep ⟨13, .data⟩ (by simp) rfl
      refine vop_val (v := .bool true) (w' := wc) (by go_simp) ?_
      exact hK wc (by rw [show (b1 || (14 : Nat) == 5) = b1 from Bool.or_false _, show (b2 || (14 : Nat) == 13) = b2 from Bool.or_false _]; exact hS)
    · cases ho
      have e14 : (mkRn v g w.heap.size (.agg #[.int .i64 34, .int .u16 (fd : Int), .int .u16 (n : Int), y, .string p, .string q]) u).tmps[167]?.getD undef = .bool true := hdep ⟨14, .data⟩ (by simp) rfl
      refine vop_val (v := .bool true) (w' := wc) (by go_simp) ?_
      exact hK wc (by rw [show (b1 || (15 : Nat) == 5) = b1 from Bool.or_false _, show (b2 || (15 : Nat) == 13) = b2 from Bool.or_false _]; exact hS)
  · intro u wc hv hS
    have h15 : u 15 = .bool true := hv 15 (by decide)
    dsimp only [mkRn]
    rw [h15]
    clear hv h15
    have HS9 := Lib.hid hS
    clear hS
    go_wp2
    go_ret
    exact ⟨rfl, HS9.out.1.less (fun j hj => .inl hj) HM.out.kb, S0.out.trans (HS9.out.2.less (fun j hj => .inl hj))⟩
end Go.Proofs.Ytckoapfmfpmdgaa
