/-
  Text of package prog: a line for each instruction.
-/
import Derived.Test.YtcecmkelefhaaaaDoorProgS
namespace Go.Proofs.YtcecmkelefhaaaaDoor
open Go.ChangeShapes Go.WideShapes Go.ChangeAt Go.RowKit Go.Joins
set_option linter.unusedVariables false

/-- A line: an instruction's number, and how it is told. -/
def lineT (j : Nat) (x : Int × Int) : List UInt8 := ((digs j ++ [32]) ++ (wd x).data.toList) ++ [10]
/-- The first k lines. -/
def txt (L : List (Int × Int)) (k : Nat) : List UInt8 := (List.range k).flatMap fun j => match L[j]? with | some x => lineT j x | none => []
theorem txt_succ {L : List (Int × Int)} {k : Nat} {x : Int × Int} (h : L[k]? = some x) : txt L (k + 1) = (((txt L k ++ digs k) ++ [32]) ++ (wd x).data.toList) ++ [10] := by
  unfold txt
  rw [List.range_succ, List.flatMap_append]
  simp [h, lineT]
theorem wd_size (x : Int × Int) : (wd x).size ≤ 42 := by
  unfold wd
  by_cases h : okI x = true
  · obtain ⟨b1, b2, b3, b4⟩ := okI_bd h
    have h1 := nm_size x.1.toNat (by omega)
    have h2 := digs_len x.2.toNat (by omega)
    rw [if_pos h]
    split
    · have e : (nm x.1.toNat ++ (⟨#[32]⟩ : ByteArray) ++ (⟨(digs x.2.toNat).toArray⟩ : ByteArray)).size = (nm x.1.toNat).size + 1 + (digs x.2.toNat).length := by
        rw [ByteArray.size_append, ByteArray.size_append, size_mk]
        rfl
      rw [e]
      omega
    · omega
  · rw [if_neg h]
    decide
theorem txt_len (L : List (Int × Int)) (k : Nat) (hk : k ≤ 1000) : (txt L k).length ≤ k * 65 := by
  induction k with
  | zero => simp [txt]
  | succ k ih =>
    have h0 := ih (by omega)
    cases h : L[k]? with
    | none =>
      have e : txt L (k + 1) = txt L k := by
        unfold txt
        rw [List.range_succ, List.flatMap_append]
        simp [h]
      rw [e]
      omega
    | some x =>
      rw [txt_succ h]
      have h1 := digs_len k (by omega)
      have h2 := wd_size x
      have h3 : (wd x).data.toList.length = (wd x).size := by rw [Array.length_toList]; rfl
      simp only [List.length_append, List.length_cons, List.length_nil]
      omega
theorem kept_other {w w' : World} {k : Nat} {c : Array Value} {fz : Nat × Nat} (h : Lib.OthersKept 5 Option.none w w') (hk : w.heap[k]? = some (.cells c 41 fz)) : w'.heap[k]? = some (.cells c 41 fz) :=
  h k _ hk (by simp) (fun c' f' e => by
    injection e with _ e _
    revert e
    decide)
/-- Behind AppendInt. -/
theorem BRel.num {w wr w' : World} {v v' : Value} {l : List UInt8} {k : Nat} (h : BRel w wr v l) (ho : w'.ownsRow w.heap.size 5 1 v' (l.length + (Lib.itoa (k : Int)).length) (u8s l ++ Lib.byteCells (Lib.itoa (k : Int)))) (hb : Below w.heap.size wr w') : BRel w w' v' (l ++ digs k) := by
  rw [itoa_digs] at ho
  refine ⟨by rw [List.length_append, u8s_app]; exact ho, ⟨hb.os.trans h.gw.os, rfl, hb.output.trans h.gw.output, Nat.le_trans h.gw.size hb.size, fun j hj => (hb.block j hj).trans (h.gw.block j hj)⟩⟩
/-- A row of bytes does not lie in a block of instructions. -/
theorem BRel.other {w wr : World} {v : Value} {l : List UInt8} {k : Nat} {c : Array Value} {fz : Nat × Nat} (h : BRel w wr v l) (hk : wr.heap[k]? = some (.cells c 41 fz)) : some k ≠ v.ownBlock := fun e => by
  rcases h.own.2 with ⟨h0, _⟩ | ⟨g, cap, cur, h0, _, h2, _⟩
  · rw [h0] at e; cases e
  · rw [h0] at e
    have e' : some k = some g := e
    injection e' with e'
    subst e'
    rw [hk] at h2
    injection h2 with h2
    injection h2 with _ h3 _
    revert h3
    decide
set_option maxRecDepth 4000 in
set_option maxHeartbeats 4000000 in
theorem text_any {W : World} {A B : Option Addr} {L : List (Int × Int)} {N : List ByteArray} {ca cb : Nat} (h : POk W A L ca B N cb) (hL : L.length ≤ 500) (hT : Tb W) :
    Calls Tryd.prog 19 #[.agg #[.slice A L.length ca, .slice B N.length cb]] W fun e W' => e = .returned (.string ⟨(txt L L.length).toArray⟩) ∧ Gw W W' := by
  obtain ⟨wo, hwo⟩ : ∃ wo, wo = W.alloc (.cells #[.slice A L.length ca, .slice B N.length cb] 25) := ⟨_, rfl⟩
  have HG := Gw.alloc W (.cells #[.slice A L.length ca, .slice B N.length cb] 25)
  obtain ⟨c0, c1, f0, f1⟩ := two_cells (heap_alloc_new W (.cells #[.slice A L.length ca, .slice B N.length cb] 25))
  rw [← hwo] at HG c0
  have HK := Lib.hid (h.gw HG)
  have HT := Lib.hid (hT.gw HG)
  have HGH := Lib.hid HG
  clear h hT c1 f0 f1 HG
  obtain ⟨i0, hi1, hi2, hi3, hi4⟩ := info_u8
  have HI := Lib.hid (show _ ∧ _ ∧ _ ∧ _ from ⟨hi1, hi2, hi3, hi4⟩)
  clear hi1 hi2 hi3 hi4
  go_enter Tryd.func19, Tryd.ntmps19
  go_upto_region 1 with fail
  rw [← hwo]
  clear hwo
  go_wp2_with fail
  go_loopw [3, 9] (fun v i wr => ∃ (k : Nat), k ≤ L.length ∧ i = .int .i64 k ∧ Hid (BRel wo wr v (txt L k))) (fun _ i _ => L.length - (intOf i).toNat)
  case atStart => exact ⟨0, by omega, rfl, BRel.none (Gw.refl _)⟩
  case round =>
    obtain ⟨k, hk, rfl, R⟩ := hrel
    by_cases hlt : k < L.length
    · obtain ⟨x, hx⟩ : ∃ x, L[k]? = some x := ⟨_, List.getElem?_eq_getElem hlt⟩
      obtain ⟨g, off, rfl, hg, hc0, hc1⟩ := (HK.out.gw R.out.gw).inst k x hx
      have HQ := Lib.hid (txt_succ hx)
      have hPl := txt_len L k (by omega)
      have hP : (txt L k).length ≤ 40000 := by omega
      clear hPl hx
      generalize txt L k = Pk at *
      go_upto_region 5 with fail
      have hb4 : (wr.alloc (.cells #[.int .i64 x.1, .int .i64 x.2] 41)).heap[wr.heap.size]? = some (.cells #[.int .i64 x.1, .int .i64 x.2] 41 (0, 0)) := heap_alloc_new wr _
      have R4 : BRel wo (wr.alloc (.cells #[.int .i64 x.1, .int .i64 x.2] 41)) u3 Pk := R.out.keep (Gw.alloc wr _)
      have AC := Tryd.strconv_AppendInt_10 wo.heap.size Pk.length k (by omega) (by omega) u3 (u8s Pk) _ R4.own R4.gw.size (by omega) (HT.out.below R4.gw)
      generalize wr.alloc (.cells #[.int .i64 x.1, .int .i64 x.2] 41) = w4 at *
      generalize wr.heap.size = bi at *
      go_upto_region 6 with (go_at_call 23; with_reducible refine AC.mono ?_; rintro e w5 ⟨v5, rfl, hown5, hb5, hk5⟩)
      have R5 := R4.num hown5 hb5
      have hb6 := kept_other hk5 hb4
      have hd5 := digs_len k (by omega)
      have hPl : (Pk ++ digs k).length ≤ 41000 := by rw [List.length_append]; omega
      have HSZ := Lib.hid R5.gw.size
      clear hown5 hb5 hk5 hb4 AC R4
      generalize Pk ++ digs k = P5 at *
      go_upto_region 7 with (at_builtin; refine wpList_append_lies _ rfl _ _ _ rfl wo.heap.size 5 i0 _ 1 1 Tryd.underlying28 HI.out.1 HI.out.2.1 HI.out.2.2.1 HI.out.2.2.2 rfl (by omega) v5 P5.length (u8s P5) rfl (R5.own.alloc _) ⟨w5.heap.size, 0, none⟩ 1 1 [.int .u8 32] rfl rfl (World.news_of_block (cs := #[.int .u8 32]) (t := 5) (fr := (0, 0)) (heap_alloc_new w5 _)) (by simp [Value.oneCell']) (by omega) (by unfold maxLen; omega) (by omega) (by have := HSZ.out; simp; omega) (w5.heap.size + 1) (by simp) ?_; intro g6 c6 w6 hown6 hgrow6 hat6 hlt6)
      have R6 : BRel wo w6 (.slice (some ⟨g6, 0, Option.none⟩) (P5.length + 1) c6) (P5 ++ [32]) := R5.more (m := [32]) hown6 (by simp) (Gw.alloc w5 _) hgrow6
      have hb7 : w6.heap[bi]? = some (.cells #[.int .i64 x.1, .int .i64 x.2] 41 (0, 0)) := ((hgrow6.block bi (Nat.lt_of_lt_of_le (Array.getElem?_eq_some_iff.1 hb6).1 (Gw.alloc w5 _).size) (R5.other hb6)).trans ((Gw.alloc w5 _).block bi (Array.getElem?_eq_some_iff.1 hb6).1)).trans hb6
      obtain ⟨x0, x1, _, _⟩ := two_cells hb7
      have hl6 : (P5 ++ [32]).length = P5.length + 1 := by simp
      clear hown6 hgrow6 hat6 hlt6 hb6 hb7 R5 HSZ
      rw [← hl6] at R6 ⊢
      have hPl6 : (P5 ++ [32]).length ≤ 41001 := by omega
      clear hl6 hPl
      generalize P5 ++ [32] = P6 at *
      have WC := words_any x (HT.out.gw R6.gw)
      have hws := wd_size x
      generalize wd x = sx at *
      go_upto_region 8 with (first | (go_at_call 24; with_reducible refine WC.mono ?_; rintro e w7 ⟨rfl, G7⟩; have R7 := R6.keep G7) | (at_builtin; refine Lib.wpList_append_own_string _ rfl _ _ _ _ rfl wo.heap.size 5 i0 Tryd.underlying28 Tryd.underlying9 HI.out.1 HI.out.2.1 HI.out.2.2.1 HI.out.2.2.2 (.slice (some ⟨g6, 0, none⟩) P6.length c6) P6.length (u8s P6) rfl R7.own sx rfl (by unfold maxLen; omega) (by omega) R7.gw.size ?_; intro v8 w8 hown8 hgrow8 hnil8))
      have R8 : BRel wo w8 v8 (P6 ++ sx.data.toList) := R7.more (m := sx.data.toList) (by rw [← strCells_eq]; exact hown8) (by rw [Array.length_toList]; rfl) (Gw.refl w7) hgrow8
      have hPl8 : (P6 ++ sx.data.toList).length ≤ 41100 := by
        have e1 : (P6 ++ sx.data.toList).length = P6.length + sx.size := by rw [List.length_append, Array.length_toList]; rfl
        rw [e1]; omega
      clear hown8 hgrow8 hnil8 R7 R6 WC G7 x0 x1
      generalize P6 ++ sx.data.toList = P8 at *
      have HSZ := Lib.hid R8.gw.size
      go_wp2_with (at_builtin; refine wpList_append_lies _ rfl _ _ _ rfl wo.heap.size 5 i0 _ 1 1 Tryd.underlying28 HI.out.1 HI.out.2.1 HI.out.2.2.1 HI.out.2.2.2 rfl (by omega) v8 P8.length (u8s P8) rfl (R8.own.alloc _) ⟨w8.heap.size, 0, none⟩ 1 1 [.int .u8 10] rfl rfl (World.news_of_block (cs := #[.int .u8 10]) (t := 5) (fr := (0, 0)) (heap_alloc_new w8 _)) (by simp [Value.oneCell']) (by omega) (by unfold maxLen; omega) (by omega) (by have := HSZ.out; simp; omega) (w8.heap.size + 1) (by simp) ?_; intro g9 c9 w9 hown9 hgrow9 hat9 hlt9)
      have R9 := Lib.hid (show BRel wo w9 (.slice (some ⟨g9, 0, Option.none⟩) (P8.length + 1) c9) (P8 ++ [10]) from R8.more (m := [10]) hown9 (by simp) (Gw.alloc w8 _) hgrow9)
      clear hown9 hgrow9 hat9 hlt9
      rw [← HQ.out] at R9
      exact ⟨⟨k + 1, by omega, by go_num, R9⟩, by simp [intOf]; omega⟩
    · obtain rfl : k = L.length := by omega
      have hcv := R.out.back
      go_wp2_with fail
      go_ret
      exact ⟨rfl, HGH.out.trans R.out.gw⟩
end Go.Proofs.YtcecmkelefhaaaaDoor
