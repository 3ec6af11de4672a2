/-
  Parts of the proof, joined: DpllNq, DpllRi, DpllNs.
-/
import Derived.Test.YtpmdnbdmocdngaaGreatMh35
import Derived.Test.YtpmdnbdmocdngaaGreatMh13
import Derived.Test.YtpmdnbdmocdngaaGreatMh12

namespace Go.Proofs.YtpmdnbdmocdngaaGreat
open Go.ChangeShapes Go.WideShapes Go.ChangeAt Go.RowKit
set_option linter.unusedVariables false
set_option linter.unusedSimpArgs false

def NqPost (n : Nat) (w : World) (e : Ending) (w' : World) : Prop := ∃ gp gs : Nat, e = .returned (.agg #[.slice none 0 0, .slice (some ⟨gp, 0, none⟩) n n, .slice (some ⟨gs, 0, none⟩) n n, .int .i64 65536]) ∧ Below w.heap.size w w' ∧ w.heap.size ≤ gp ∧ w.heap.size ≤ gs ∧ gp ≠ gs ∧ HasB w' gp 21 (madeCells #[.int .i32 (-1)] n) ∧ HasB w' gs 2 (madeCells #[.int .i64 0] n)
/-- The places: those below k are none. -/
def qArr (n k : Nat) : Array Value := ⟨(List.range n).map fun v => .int .i32 (if v < k then -1 else 0)⟩
theorem qArr_get {n k v : Nat} (h : v < n) : (qArr n k)[v]? = some (.int .i32 (if v < k then -1 else 0)) := by simp [qArr, h]
theorem qArr_nil (n : Nat) : qArr n 0 = madeCells #[Value.int .i32 0] n := by
  apply Array.ext'
  rw [toList_madeCells_one]
  refine List.ext_getElem? fun i => ?_
  by_cases hi : i < n <;> simp [qArr, hi, List.getElem?_replicate]
theorem qArr_all (n : Nat) : qArr n n = madeCells #[Value.int .i32 (-1)] n := by
  apply Array.ext'
  rw [toList_madeCells_one]
  refine List.ext_getElem? fun i => ?_
  by_cases hi : i < n <;> simp [qArr, hi, List.getElem?_replicate]
theorem qArr_put {n k : Nat} (hk : k < n) : (qArr n k).setIfInBounds k (.int .i32 (-1)) = qArr n (k + 1) := by
  apply Array.ext'
  rw [Array.toList_setIfInBounds]
  refine List.ext_getElem? fun i => ?_
  by_cases e : k = i
  · subst e
    rw [List.getElem?_set_self (by simp [qArr]; exact hk)]
    simp [qArr, hk]
  · rw [List.getElem?_set_ne e]
    by_cases hi : i < n
    · simp only [qArr, List.getElem?_map, List.getElem?_range hi, Option.map_some]
      by_cases h1 : i < k
      · rw [if_pos h1, if_pos (by omega)]
      · rw [if_neg h1, if_neg (by omega)]
    · simp [qArr, hi]
def qCells (n gp gs : Nat) : Array Value := #[.slice none 0 0, .slice (some ⟨gp, 0, none⟩) n n, .slice (some ⟨gs, 0, none⟩) n n, .int .i64 65536]
structure NqR (w : World) (n gp gs b3 k : Nat) (wr : World) : Prop where
  has : HasB wr gp 21 (qArr n k)
  sc : HasB wr gs 2 (madeCells #[.int .i64 0] n)
  q : HasB wr b3 126 (qCells n gp gs)
  r : HasB wr w.heap.size 126 #[.slice none 0 0, .slice none 0 0, .slice none 0 0, .int .i64 0]
  below : Below w.heap.size w wr
  ne : w.heap.size < gp ∧ w.heap.size < gs ∧ w.heap.size < b3 ∧ gp ≠ gs ∧ gp ≠ b3 ∧ gs ≠ b3
theorem HasB.other {w : World} {g : Nat} {t : TypeId} {cs : Array Value} {a : Addr} {u : Value} (h : HasB w g t cs) (hne : g ≠ a.block) : HasB (w.setCell a u) g t cs := (set_other hne).trans h
theorem NqR.put {w wr : World} {n gp gs b3 k : Nat} (h : NqR w n gp gs b3 k wr) (hk : k < n) : NqR w n gp gs b3 (k + 1) (wr.setCell ⟨gp, k, none⟩ (.int .i32 (-1))) := by
  obtain ⟨n1, n2, n3, n4, n5, n6⟩ := h.ne
  refine ⟨?_, h.sc.other (a := ⟨gp, k, none⟩) (fun e => n4 e.symm), h.q.other (a := ⟨gp, k, none⟩) (fun e => n5 e.symm), h.r.other (a := ⟨gp, k, none⟩) (by show w.heap.size ≠ gp; omega), h.below.setCell (by show w.heap.size ≤ gp; omega) _, h.ne⟩
  have := h.has.put k (.int .i32 (-1))
  rwa [qArr_put hk] at this
theorem four_at (w : World) (X A B C : Obj) : ((((w.alloc X).alloc A).alloc B).alloc C).drew.heap[w.heap.size]? = some X ∧ ((((w.alloc X).alloc A).alloc B).alloc C).drew.heap[w.heap.size + 1]? = some A ∧ ((((w.alloc X).alloc A).alloc B).alloc C).drew.heap[w.heap.size + 1 + 1]? = some B ∧ ((((w.alloc X).alloc A).alloc B).alloc C).drew.heap[w.heap.size + 1 + 1 + 1]? = some C ∧ Below w.heap.size w ((((w.alloc X).alloc A).alloc B).alloc C).drew := by
  obtain ⟨t0, t1, t2, t3⟩ := three_at w X A B
  refine ⟨?_, ?_, ?_, ?_, ?_⟩
  · show ((((w.alloc X).alloc A).alloc B).alloc C).heap[w.heap.size]? = _
    rw [alloc_other (by simp; omega)]; exact t0
  · show ((((w.alloc X).alloc A).alloc B).alloc C).heap[w.heap.size + 1]? = _
    rw [alloc_other (by simp)]; exact t1
  · show ((((w.alloc X).alloc A).alloc B).alloc C).heap[w.heap.size + 1 + 1]? = _
    rw [alloc_other (by simp)]; exact t2
  · show ((((w.alloc X).alloc A).alloc B).alloc C).heap[w.heap.size + 1 + 1 + 1]? = _
    have := new_heap (((w.alloc X).alloc A).alloc B) C
    simpa using this
  · exact Below.draws (t3.alloc (by simp; omega) C) 0
theorem NqR.done {w wr : World} {n gp gs b3 : Nat} (h : NqR w n gp gs b3 n wr) :
    HasB ((((wr.setCell ⟨w.heap.size, 0, none⟩ (.slice none 0 0)).setCell ⟨w.heap.size, 1, none⟩ (.slice (some ⟨gp, 0, none⟩) n n)).setCell ⟨w.heap.size, 2, none⟩ (.slice (some ⟨gs, 0, none⟩) n n)).setCell ⟨w.heap.size, 3, none⟩ (.int .i64 65536)) w.heap.size 126 #[.slice none 0 0, .slice (some ⟨gp, 0, none⟩) n n, .slice (some ⟨gs, 0, none⟩) n n, .int .i64 65536] ∧
    NqPost n w (.returned (.agg #[.slice none 0 0, .slice (some ⟨gp, 0, none⟩) n n, .slice (some ⟨gs, 0, none⟩) n n, .int .i64 65536])) ((((wr.setCell ⟨w.heap.size, 0, none⟩ (.slice none 0 0)).setCell ⟨w.heap.size, 1, none⟩ (.slice (some ⟨gp, 0, none⟩) n n)).setCell ⟨w.heap.size, 2, none⟩ (.slice (some ⟨gs, 0, none⟩) n n)).setCell ⟨w.heap.size, 3, none⟩ (.int .i64 65536)) := by
  obtain ⟨n1, n2, n3, n4, n5, n6⟩ := h.ne
  have hp : HasB wr gp 21 (madeCells #[.int .i32 (-1)] n) := by rw [← qArr_all]; exact h.has
  have o : ∀ {g : Nat} {t : TypeId} {cs : Array Value} {wk : World} {j : Nat} {u : Value}, w.heap.size < g → HasB wk g t cs → HasB (wk.setCell ⟨w.heap.size, j, none⟩ u) g t cs := fun hg hb => hb.other (a := ⟨w.heap.size, _, none⟩) (by show _ ≠ w.heap.size; omega)
  refine ⟨?_, gp, gs, rfl, ?_, Nat.le_of_lt n1, Nat.le_of_lt n2, n4, o n1 (o n1 (o n1 (o n1 hp))), o n2 (o n2 (o n2 (o n2 h.sc)))⟩
  · exact (((h.r.put 0 (.slice none 0 0)).put 1 (.slice (some ⟨gp, 0, none⟩) n n)).put 2 (.slice (some ⟨gs, 0, none⟩) n n)).put 3 (.int .i64 65536)
  · exact (((h.below.setCell (Nat.le_refl _) _).setCell (Nat.le_refl _) _).setCell (Nat.le_refl _) _).setCell (Nat.le_refl _) _
set_option maxHeartbeats 1600000 in
theorem nqueue_any (n : Nat) (w : World) (hn : n ≤ 65536) : Calls Tryz.prog 59 #[.int .i64 (n : Int)] w (NqPost n w) := by
  have hmkP : ∀ w, (Instr.makeSlice 122 (.int .i64 (n : Int)) (.int .i64 (n : Int))).run Tryz.prog w = .ok (.slice (some ⟨w.heap.size, 0, none⟩) n n) (w.alloc (.cells (madeCells #[.int .i32 0] n) 21)) := fun w => run_make_row' (P := Tryz.prog) 122 21 (.int .i32 0) 4 Tryz.underlying122 infoI32 rfl .i64 .i64 n (by omega) (by omega) w
  have hmkS : ∀ w, (Instr.makeSlice 124 (.int .i64 (n : Int)) (.int .i64 (n : Int))).run Tryz.prog w = .ok (.slice (some ⟨w.heap.size, 0, none⟩) n n) (w.alloc (.cells (madeCells #[.int .i64 0] n) 2)) := fun w => run_make_row' (P := Tryz.prog) 124 2 (.int .i64 0) 8 Tryz.underlying124 (by kernel_rfl) rfl .i64 .i64 n (by omega) (by omega) w
  go_enter Tryz.func59, Tryz.ntmps59
  go_wp2_with fail
  go_region
  · obtain ⟨t0, t1, t2, t3, t4⟩ := four_at w (.cells #[.slice none 0 0, .slice none 0 0, .slice none 0 0, .int .i64 0] 126) (.cells (madeCells #[.int .i32 0] n) 21) (.cells (madeCells #[.int .i64 0] n) 2) (.cells (qCells n (w.heap.size + 1) (w.heap.size + 1 + 1)) 126)
    have R0 := Lib.hid (show NqR w n (w.heap.size + 1) (w.heap.size + 1 + 1) (w.heap.size + 1 + 1 + 1) 0 _ from ⟨by rw [qArr_nil]; exact t1, t2, t3, t0, t4, by omega, by omega, by omega, by omega, by omega, by omega⟩)
    clear t0 t1 t2 t3 t4
    unfold qCells at R0
    generalize w.heap.size + 1 + 1 + 1 = s3 at *
    generalize w.heap.size + 1 + 1 = s2 at *
    generalize w.heap.size + 1 = s1 at *
    generalize World.drew _ = W at *
    have c3 : W.cell? ⟨s3, 1, none⟩ = some (.slice (some ⟨s1, 0, none⟩) n n) := R0.out.q.cell 1
    go_wp2_with fail
    clear c3
    go_loopw [13] (fun i wr => ∃ k : Nat, k ≤ n ∧ i = .int .i64 k ∧ Hid (NqR w n s1 s2 s3 k wr)) (fun i _ => n - (intOf i).toNat)
    case atStart => exact ⟨0, by omega, rfl, R0⟩
    case round =>
      obtain ⟨k, hk, rfl, R⟩ := hrel
      have q1 : wr.cell? ⟨s3, 1, none⟩ = some (.slice (some ⟨s1, 0, none⟩) n n) := R.out.q.cell 1
      by_cases hlt : k < n
      · have c1 : wr.cell? ⟨s1, k, none⟩ = some (.int .i32 0) := by rw [R.out.has.cell, qArr_get hlt, if_neg (Nat.lt_irrefl _)]
        have r1 := R.out.has.free k
        have HP := Lib.hid (R.out.put hlt)
        have b1 : (0 : Int) ≤ (k : Int) := by omega
        have b2 : (k : Int) < (n : Int) := by omega
        clear R0
        go_wp2_with fail
        go_roundw
        case rel => exact ⟨k + 1, by omega, by go_num, HP⟩
        case measure => simp [intOf]; omega
      · obtain rfl : k = n := by omega
        have q0 : wr.cell? ⟨s3, 0, none⟩ = some (.slice none 0 0) := R.out.q.cell 0
        have q2 : wr.cell? ⟨s3, 2, none⟩ = some (.slice (some ⟨s2, 0, none⟩) k k) := R.out.q.cell 2
        have q3 : wr.cell? ⟨s3, 3, none⟩ = some (.int .i64 65536) := R.out.q.cell 3
        have p0 : wr.cell? ⟨w.heap.size, 0, none⟩ = some (.slice none 0 0) := R.out.r.cell 0
        have p1 : wr.cell? ⟨w.heap.size, 1, none⟩ = some (.slice none 0 0) := R.out.r.cell 1
        have p2 : wr.cell? ⟨w.heap.size, 2, none⟩ = some (.slice none 0 0) := R.out.r.cell 2
        have p3 : wr.cell? ⟨w.heap.size, 3, none⟩ = some (.int .i64 0) := R.out.r.cell 3
        have pf := R.out.r.free
        go_wp2_with fail
        have HD := R.out.done
        refine bodyPost_ret (results_cell_row rfl _ _ w.heap.size _ _ _ _ rfl HD.1 Tryz.underlying126 rfl (by kernel_rfl)) rfl ?_
        exact HD.2
  · obtain ⟨t0, t1, t2, t3, t4⟩ := four_at w (.cells #[.slice none 0 0, .slice none 0 0, .slice none 0 0, .int .i64 0] 126) (.cells (madeCells #[.int .i32 0] n) 21) (.cells (qCells n (w.heap.size + 1) (w.heap.size + 1 + 1 + 1)) 126) (.cells (madeCells #[.int .i64 0] n) 2)
    have R0 := Lib.hid (show NqR w n (w.heap.size + 1) (w.heap.size + 1 + 1 + 1) (w.heap.size + 1 + 1) 0 _ from ⟨by rw [qArr_nil]; exact t1, t3, t2, t0, t4, by omega, by omega, by omega, by omega, by omega, by omega⟩)
    clear t0 t1 t2 t3 t4
    unfold qCells at R0
    generalize w.heap.size + 1 + 1 + 1 = s3 at *
    generalize w.heap.size + 1 + 1 = s2 at *
    generalize w.heap.size + 1 = s1 at *
    generalize World.drew _ = W at *
    have c3 : W.cell? ⟨s2, 1, none⟩ = some (.slice (some ⟨s1, 0, none⟩) n n) := R0.out.q.cell 1
    go_wp2_with fail
    clear c3
    go_loopw [13] (fun i wr => ∃ k : Nat, k ≤ n ∧ i = .int .i64 k ∧ Hid (NqR w n s1 s3 s2 k wr)) (fun i _ => n - (intOf i).toNat)
    case atStart => exact ⟨0, by omega, rfl, R0⟩
    case round =>
      obtain ⟨k, hk, rfl, R⟩ := hrel
      have q1 : wr.cell? ⟨s2, 1, none⟩ = some (.slice (some ⟨s1, 0, none⟩) n n) := R.out.q.cell 1
      by_cases hlt : k < n
      · have c1 : wr.cell? ⟨s1, k, none⟩ = some (.int .i32 0) := by rw [R.out.has.cell, qArr_get hlt, if_neg (Nat.lt_irrefl _)]
        have r1 := R.out.has.free k
        have HP := Lib.hid (R.out.put hlt)
        have b1 : (0 : Int) ≤ (k : Int) := by omega
        have b2 : (k : Int) < (n : Int) := by omega
        clear R0
        go_wp2_with fail
        go_roundw
        case rel => exact ⟨k + 1, by omega, by go_num, HP⟩
        case measure => simp [intOf]; omega
      · obtain rfl : k = n := by omega
        have q0 : wr.cell? ⟨s2, 0, none⟩ = some (.slice none 0 0) := R.out.q.cell 0
        have q2 : wr.cell? ⟨s2, 2, none⟩ = some (.slice (some ⟨s3, 0, none⟩) k k) := R.out.q.cell 2
        have q3 : wr.cell? ⟨s2, 3, none⟩ = some (.int .i64 65536) := R.out.q.cell 3
        have p0 : wr.cell? ⟨w.heap.size, 0, none⟩ = some (.slice none 0 0) := R.out.r.cell 0
        have p1 : wr.cell? ⟨w.heap.size, 1, none⟩ = some (.slice none 0 0) := R.out.r.cell 1
        have p2 : wr.cell? ⟨w.heap.size, 2, none⟩ = some (.slice none 0 0) := R.out.r.cell 2
        have p3 : wr.cell? ⟨w.heap.size, 3, none⟩ = some (.int .i64 0) := R.out.r.cell 3
        have pf := R.out.r.free
        go_wp2_with fail
        have HD := R.out.done
        refine bodyPost_ret (results_cell_row rfl _ _ w.heap.size _ _ _ _ rfl HD.1 Tryz.underlying126 rfl (by kernel_rfl)) rfl ?_
        exact HD.2
  · obtain ⟨t0, t1, t2, t3, t4⟩ := four_at w (.cells #[.slice none 0 0, .slice none 0 0, .slice none 0 0, .int .i64 0] 126) (.cells (madeCells #[.int .i64 0] n) 2) (.cells (madeCells #[.int .i32 0] n) 21) (.cells (qCells n (w.heap.size + 1 + 1) (w.heap.size + 1)) 126)
    have R0 := Lib.hid (show NqR w n (w.heap.size + 1 + 1) (w.heap.size + 1) (w.heap.size + 1 + 1 + 1) 0 _ from ⟨by rw [qArr_nil]; exact t2, t1, t3, t0, t4, by omega, by omega, by omega, by omega, by omega, by omega⟩)
    clear t0 t1 t2 t3 t4
    unfold qCells at R0
    generalize w.heap.size + 1 + 1 + 1 = s3 at *
    generalize w.heap.size + 1 + 1 = s2 at *
    generalize w.heap.size + 1 = s1 at *
    generalize World.drew _ = W at *
    have c3 : W.cell? ⟨s3, 1, none⟩ = some (.slice (some ⟨s2, 0, none⟩) n n) := R0.out.q.cell 1
    go_wp2_with fail
    clear c3
    go_loopw [13] (fun i wr => ∃ k : Nat, k ≤ n ∧ i = .int .i64 k ∧ Hid (NqR w n s2 s1 s3 k wr)) (fun i _ => n - (intOf i).toNat)
    case atStart => exact ⟨0, by omega, rfl, R0⟩
    case round =>
      obtain ⟨k, hk, rfl, R⟩ := hrel
      have q1 : wr.cell? ⟨s3, 1, none⟩ = some (.slice (some ⟨s2, 0, none⟩) n n) := R.out.q.cell 1
      by_cases hlt : k < n
      · have c1 : wr.cell? ⟨s2, k, none⟩ = some (.int .i32 0) := by rw [R.out.has.cell, qArr_get hlt, if_neg (Nat.lt_irrefl _)]
        have r1 := R.out.has.free k
        have HP := Lib.hid (R.out.put hlt)
        have b1 : (0 : Int) ≤ (k : Int) := by omega
        have b2 : (k : Int) < (n : Int) := by omega
        clear R0
        go_wp2_with fail
        go_roundw
        case rel => exact ⟨k + 1, by omega, by go_num, HP⟩
        case measure => simp [intOf]; omega
      · obtain rfl : k = n := by omega
        have q0 : wr.cell? ⟨s3, 0, none⟩ = some (.slice none 0 0) := R.out.q.cell 0
        have q2 : wr.cell? ⟨s3, 2, none⟩ = some (.slice (some ⟨s1, 0, none⟩) k k) := R.out.q.cell 2
        have q3 : wr.cell? ⟨s3, 3, none⟩ = some (.int .i64 65536) := R.out.q.cell 3
        have p0 : wr.cell? ⟨w.heap.size, 0, none⟩ = some (.slice none 0 0) := R.out.r.cell 0
        have p1 : wr.cell? ⟨w.heap.size, 1, none⟩ = some (.slice none 0 0) := R.out.r.cell 1
        have p2 : wr.cell? ⟨w.heap.size, 2, none⟩ = some (.slice none 0 0) := R.out.r.cell 2
        have p3 : wr.cell? ⟨w.heap.size, 3, none⟩ = some (.int .i64 0) := R.out.r.cell 3
        have pf := R.out.r.free
        go_wp2_with fail
        have HD := R.out.done
        refine bodyPost_ret (results_cell_row rfl _ _ w.heap.size _ _ _ _ rfl HD.1 Tryz.underlying126 rfl (by kernel_rfl)) rfl ?_
        exact HD.2
  · obtain ⟨t0, t1, t2, t3, t4⟩ := four_at w (.cells #[.slice none 0 0, .slice none 0 0, .slice none 0 0, .int .i64 0] 126) (.cells (madeCells #[.int .i64 0] n) 2) (.cells (qCells n (w.heap.size + 1 + 1 + 1) (w.heap.size + 1)) 126) (.cells (madeCells #[.int .i32 0] n) 21)
    have R0 := Lib.hid (show NqR w n (w.heap.size + 1 + 1 + 1) (w.heap.size + 1) (w.heap.size + 1 + 1) 0 _ from ⟨by rw [qArr_nil]; exact t3, t1, t2, t0, t4, by omega, by omega, by omega, by omega, by omega, by omega⟩)
    clear t0 t1 t2 t3 t4
    unfold qCells at R0
    generalize w.heap.size + 1 + 1 + 1 = s3 at *
    generalize w.heap.size + 1 + 1 = s2 at *
    generalize w.heap.size + 1 = s1 at *
    generalize World.drew _ = W at *
    have c3 : W.cell? ⟨s2, 1, none⟩ = some (.slice (some ⟨s3, 0, none⟩) n n) := R0.out.q.cell 1
    go_wp2_with fail
    clear c3
    go_loopw [13] (fun i wr => ∃ k : Nat, k ≤ n ∧ i = .int .i64 k ∧ Hid (NqR w n s3 s1 s2 k wr)) (fun i _ => n - (intOf i).toNat)
    case atStart => exact ⟨0, by omega, rfl, R0⟩
    case round =>
      obtain ⟨k, hk, rfl, R⟩ := hrel
      have q1 : wr.cell? ⟨s2, 1, none⟩ = some (.slice (some ⟨s3, 0, none⟩) n n) := R.out.q.cell 1
      by_cases hlt : k < n
      · have c1 : wr.cell? ⟨s3, k, none⟩ = some (.int .i32 0) := by rw [R.out.has.cell, qArr_get hlt, if_neg (Nat.lt_irrefl _)]
        have r1 := R.out.has.free k
        have HP := Lib.hid (R.out.put hlt)
        have b1 : (0 : Int) ≤ (k : Int) := by omega
        have b2 : (k : Int) < (n : Int) := by omega
        clear R0
        go_wp2_with fail
        go_roundw
        case rel => exact ⟨k + 1, by omega, by go_num, HP⟩
        case measure => simp [intOf]; omega
      · obtain rfl : k = n := by omega
        have q0 : wr.cell? ⟨s2, 0, none⟩ = some (.slice none 0 0) := R.out.q.cell 0
        have q2 : wr.cell? ⟨s2, 2, none⟩ = some (.slice (some ⟨s1, 0, none⟩) k k) := R.out.q.cell 2
        have q3 : wr.cell? ⟨s2, 3, none⟩ = some (.int .i64 65536) := R.out.q.cell 3
        have p0 : wr.cell? ⟨w.heap.size, 0, none⟩ = some (.slice none 0 0) := R.out.r.cell 0
        have p1 : wr.cell? ⟨w.heap.size, 1, none⟩ = some (.slice none 0 0) := R.out.r.cell 1
        have p2 : wr.cell? ⟨w.heap.size, 2, none⟩ = some (.slice none 0 0) := R.out.r.cell 2
        have p3 : wr.cell? ⟨w.heap.size, 3, none⟩ = some (.int .i64 0) := R.out.r.cell 3
        have pf := R.out.r.free
        go_wp2_with fail
        have HD := R.out.done
        refine bodyPost_ret (results_cell_row rfl _ _ w.heap.size _ _ _ _ rfl HD.1 Tryz.underlying126 rfl (by kernel_rfl)) rfl ?_
        exact HD.2
  · obtain ⟨t0, t1, t2, t3, t4⟩ := four_at w (.cells #[.slice none 0 0, .slice none 0 0, .slice none 0 0, .int .i64 0] 126) (.cells (qCells n (w.heap.size + 1 + 1) (w.heap.size + 1 + 1 + 1)) 126) (.cells (madeCells #[.int .i32 0] n) 21) (.cells (madeCells #[.int .i64 0] n) 2)
    have R0 := Lib.hid (show NqR w n (w.heap.size + 1 + 1) (w.heap.size + 1 + 1 + 1) (w.heap.size + 1) 0 _ from ⟨by rw [qArr_nil]; exact t2, t3, t1, t0, t4, by omega, by omega, by omega, by omega, by omega, by omega⟩)
    clear t0 t1 t2 t3 t4
    unfold qCells at R0
    generalize w.heap.size + 1 + 1 + 1 = s3 at *
    generalize w.heap.size + 1 + 1 = s2 at *
    generalize w.heap.size + 1 = s1 at *
    generalize World.drew _ = W at *
    have c3 : W.cell? ⟨s1, 1, none⟩ = some (.slice (some ⟨s2, 0, none⟩) n n) := R0.out.q.cell 1
    go_wp2_with fail
    clear c3
    go_loopw [13] (fun i wr => ∃ k : Nat, k ≤ n ∧ i = .int .i64 k ∧ Hid (NqR w n s2 s3 s1 k wr)) (fun i _ => n - (intOf i).toNat)
    case atStart => exact ⟨0, by omega, rfl, R0⟩
    case round =>
      obtain ⟨k, hk, rfl, R⟩ := hrel
      have q1 : wr.cell? ⟨s1, 1, none⟩ = some (.slice (some ⟨s2, 0, none⟩) n n) := R.out.q.cell 1
      by_cases hlt : k < n
      · have c1 : wr.cell? ⟨s2, k, none⟩ = some (.int .i32 0) := by rw [R.out.has.cell, qArr_get hlt, if_neg (Nat.lt_irrefl _)]
        have r1 := R.out.has.free k
        have HP := Lib.hid (R.out.put hlt)
        have b1 : (0 : Int) ≤ (k : Int) := by omega
        have b2 : (k : Int) < (n : Int) := by omega
        clear R0
        go_wp2_with fail
        go_roundw
        case rel => exact ⟨k + 1, by omega, by go_num, HP⟩
        case measure => simp [intOf]; omega
      · obtain rfl : k = n := by omega
        have q0 : wr.cell? ⟨s1, 0, none⟩ = some (.slice none 0 0) := R.out.q.cell 0
        have q2 : wr.cell? ⟨s1, 2, none⟩ = some (.slice (some ⟨s3, 0, none⟩) k k) := R.out.q.cell 2
        have q3 : wr.cell? ⟨s1, 3, none⟩ = some (.int .i64 65536) := R.out.q.cell 3
        have p0 : wr.cell? ⟨w.heap.size, 0, none⟩ = some (.slice none 0 0) := R.out.r.cell 0
        have p1 : wr.cell? ⟨w.heap.size, 1, none⟩ = some (.slice none 0 0) := R.out.r.cell 1
        have p2 : wr.cell? ⟨w.heap.size, 2, none⟩ = some (.slice none 0 0) := R.out.r.cell 2
        have p3 : wr.cell? ⟨w.heap.size, 3, none⟩ = some (.int .i64 0) := R.out.r.cell 3
        have pf := R.out.r.free
        go_wp2_with fail
        have HD := R.out.done
        refine bodyPost_ret (results_cell_row rfl _ _ w.heap.size _ _ _ _ rfl HD.1 Tryz.underlying126 rfl (by kernel_rfl)) rfl ?_
        exact HD.2
  · obtain ⟨t0, t1, t2, t3, t4⟩ := four_at w (.cells #[.slice none 0 0, .slice none 0 0, .slice none 0 0, .int .i64 0] 126) (.cells (qCells n (w.heap.size + 1 + 1 + 1) (w.heap.size + 1 + 1)) 126) (.cells (madeCells #[.int .i64 0] n) 2) (.cells (madeCells #[.int .i32 0] n) 21)
    have R0 := Lib.hid (show NqR w n (w.heap.size + 1 + 1 + 1) (w.heap.size + 1 + 1) (w.heap.size + 1) 0 _ from ⟨by rw [qArr_nil]; exact t3, t2, t1, t0, t4, by omega, by omega, by omega, by omega, by omega, by omega⟩)
    clear t0 t1 t2 t3 t4
    unfold qCells at R0
    generalize w.heap.size + 1 + 1 + 1 = s3 at *
    generalize w.heap.size + 1 + 1 = s2 at *
    generalize w.heap.size + 1 = s1 at *
    generalize World.drew _ = W at *
    have c3 : W.cell? ⟨s1, 1, none⟩ = some (.slice (some ⟨s3, 0, none⟩) n n) := R0.out.q.cell 1
    go_wp2_with fail
    clear c3
    go_loopw [13] (fun i wr => ∃ k : Nat, k ≤ n ∧ i = .int .i64 k ∧ Hid (NqR w n s3 s2 s1 k wr)) (fun i _ => n - (intOf i).toNat)
    case atStart => exact ⟨0, by omega, rfl, R0⟩
    case round =>
      obtain ⟨k, hk, rfl, R⟩ := hrel
      have q1 : wr.cell? ⟨s1, 1, none⟩ = some (.slice (some ⟨s3, 0, none⟩) n n) := R.out.q.cell 1
      by_cases hlt : k < n
      · have c1 : wr.cell? ⟨s3, k, none⟩ = some (.int .i32 0) := by rw [R.out.has.cell, qArr_get hlt, if_neg (Nat.lt_irrefl _)]
        have r1 := R.out.has.free k
        have HP := Lib.hid (R.out.put hlt)
        have b1 : (0 : Int) ≤ (k : Int) := by omega
        have b2 : (k : Int) < (n : Int) := by omega
        clear R0
        go_wp2_with fail
        go_roundw
        case rel => exact ⟨k + 1, by omega, by go_num, HP⟩
        case measure => simp [intOf]; omega
      · obtain rfl : k = n := by omega
        have q0 : wr.cell? ⟨s1, 0, none⟩ = some (.slice none 0 0) := R.out.q.cell 0
        have q2 : wr.cell? ⟨s1, 2, none⟩ = some (.slice (some ⟨s2, 0, none⟩) k k) := R.out.q.cell 2
        have q3 : wr.cell? ⟨s1, 3, none⟩ = some (.int .i64 65536) := R.out.q.cell 3
        have p0 : wr.cell? ⟨w.heap.size, 0, none⟩ = some (.slice none 0 0) := R.out.r.cell 0
        have p1 : wr.cell? ⟨w.heap.size, 1, none⟩ = some (.slice none 0 0) := R.out.r.cell 1
        have p2 : wr.cell? ⟨w.heap.size, 2, none⟩ = some (.slice none 0 0) := R.out.r.cell 2
        have p3 : wr.cell? ⟨w.heap.size, 3, none⟩ = some (.int .i64 0) := R.out.r.cell 3
        have pf := R.out.r.free
        go_wp2_with fail
        have HD := R.out.done
        refine bodyPost_ret (results_cell_row rfl _ _ w.heap.size _ _ _ _ rfl HD.1 Tryz.underlying126 rfl (by kernel_rfl)) rfl ?_
        exact HD.2
end Go.Proofs.YtpmdnbdmocdngaaGreat

namespace Go.Proofs.YtpmdnbdmocdngaaGreat
open Go.ChangeShapes Go.WideShapes Go.ChangeAt Go.RowKit
set_option linter.unusedVariables false
set_option linter.unusedSimpArgs false

section
variable {P : Program} {ops : Array Oper} {Q : Exit → Act → World → Prop} {md : Region.Mode}
theorem falses_set : ∀ (l : List Bool) (i : Nat), l[i]? = some false → ((l.set i true).filter (fun b => !b)).length + 1 = (l.filter (fun b => !b)).length
  | [], i, h => by simp at h
  | b :: l, 0, h => by
    have : b = false := by simpa using h
    subst this
    simp
  | b :: l, i + 1, h => by
    have ih := falses_set l i (by simpa using h)
    cases b <;> simp at ih ⊢ <;> omega
theorem any_inv {I : Array Bool → Act → World → Prop} (hs : ∀ (l : Array Bool) (a : Act) (w : World) (i : Nat) (o : Oper), I l a w → ops[i]? = some o → l[i]? = some false → (∀ e ∈ o.after, Region.binds md e = true → l[e.on]? = some true) → ∀ K : Act → World → Prop, (∀ a' w', I (l.setIfInBounds i true) a' w' → K a' w') → wpOp P ops Q i K a w)
    (hd : ∀ (l : Array Bool) (a : Act) (w : World), I l a w → Region.ready md ops l = [] → Q .normal a w) :
    ∀ (fuel : Nat) (l : Array Bool) (a : Act) (w : World), I l a w → (l.toList.filter (fun b => !b)).length ≤ fuel → wpAny P md ops Q fuel l a w := by
  intro fuel
  induction fuel with
  | zero =>
    intro l a w h hf
    have hr : Region.ready md ops l = [] := by
      refine List.eq_nil_iff_forall_not_mem.2 fun i hi => ?_
      obtain ⟨k0, _⟩ := mem_ready.1 hi
      have k0 := at_true.1 k0
      have : false ∈ l.toList.filter (fun b => !b) := List.mem_filter.2 ⟨List.mem_of_getElem? (i := i) (by simpa using k0), rfl⟩
      have e : l.toList.filter (fun b => !b) = [] := List.eq_nil_of_length_eq_zero (by omega)
      rw [e] at this
      cases this
    exact ⟨hr, hd l a w h hr⟩
  | succ fuel ih =>
    intro l a w h hf
    refine ⟨hd l a w h, fun i hi => ?_⟩
    obtain ⟨k0, o, ho, hall⟩ := mem_ready.1 hi
    have k0 := at_true.1 k0
    refine hs l a w i o h ho k0 (fun e he hb => at_false.1 (hall e he hb)) _ fun a' w' h' => ih _ a' w' h' ?_
    have := falses_set l.toList i (by simpa using k0)
    rw [Array.toList_setIfInBounds]
    omega
/-- All has come up where nothing more comes up. -/
theorem all_up (wf : ∀ (i : Nat) (x : Oper), ops[i]? = some x → ∀ e ∈ x.after, Region.binds md e = true → e.on < i) {l : Array Bool} (hl : l.size = ops.size) (h : Region.ready md ops l = []) : ∀ i, i < ops.size → l[i]? = some true := by
  intro i
  induction i using Nat.strongRecOn with
  | _ i ih =>
    intro hi
    cases e : l[i]? with
    | none => rw [Array.getElem?_eq_none_iff] at e; omega
    | some b =>
      cases b with
      | true => rfl
      | false =>
        exfalso
        have hx : ops[i]? = some ops[i] := Array.getElem?_eq_getElem hi
        have : i ∈ Region.ready md ops l := mem_ready.2 ⟨at_true.2 e, ops[i], hx, fun e' he hb => at_false.2 (ih e'.on (wf i _ hx e' he hb) (by have := wf i _ hx e' he hb; omega))⟩
        rw [h] at this; cases this
theorem region_inv {I : Array Bool → Act → World → Prop} {id : Nat} {a : Act} {w : World} (hm : P.follows .mixedOrders = true) (h0 : I (Array.replicate ops.size false) a w.drew)
    (hs : ∀ (l : Array Bool) (a : Act) (w : World) (i : Nat) (o : Oper), I l a w → ops[i]? = some o → l[i]? = some false → (∀ e ∈ o.after, Region.binds .any e = true → l[e.on]? = some true) → ∀ K : Act → World → Prop, (∀ a' w', I (l.setIfInBounds i true) a' w' → K a' w') → wpOp P ops Q i K a w)
    (hd : ∀ (l : Array Bool) (a : Act) (w : World), I l a w → Region.ready .any ops l = [] → Q .normal a w) : (Code.region id ops true).wp P Q a w := by
  refine wp_region_any hm ?_
  exact any_inv hs hd _ _ _ _ h0 (by simp)
theorem wp_val {o : Oper} {a : Act} {w w' : World} {v : Value} {K : Act → World → Prop} (h : (execOp a.eval o).run P w = .ok (.value v) w') (hk : K (a.put o.dst v) w') : o.wp P a w K Q := by
  unfold Oper.wp; rw [h]; exact hk
theorem wp_op {i : Nat} {o : Oper} {a : Act} {w : World} {K : Act → World → Prop} (ho : ops[i]? = some o) (hg : o.guard = none) (h : o.wp P a w K Q) : wpOp P ops Q i K a w := by
  unfold wpOp
  rw [ho]
  show if Region.wanted o (yielded ops a.tmps) = true then _ else _
  rw [if_pos (wanted_none hg _)]
  exact .inl h
end
end Go.Proofs.YtpmdnbdmocdngaaGreat

namespace Go.Proofs.YtpmdnbdmocdngaaGreat
open Go.ChangeShapes Go.WideShapes Go.ChangeAt Go.RowKit
set_option linter.unusedVariables false
set_option linter.unusedSimpArgs false

/-- A search of which nothing is known. -/
def dInit (n : Nat) : Sd := { cls := [], F := fun _ => [], wo := List.replicate (2 * n) 0, tr := [], ma := [], nx := 0, dp := List.replicate n 0, wy := List.replicate n 0, lk := List.replicate n 0, hp := [], pl := List.replicate n (-1), sc := List.replicate n 0, ra := 65536, se := List.replicate n false, nu := [], co := List.replicate (n + 1) 0, ch := 0, pc := 0, pt := 1, pu := 1, le := 0, mo := 2000, gq := 2 * n, gv := .bool false, gk := 0, gu := .bool false }
theorem row_has {τ : Nat → Nat} {r g m : Nat} {w : World} {T : TypeId} {u : Value} (h : HasB w g T (madeCells #[u] m)) (hr : τ g = r) (hm : m ≤ 9223372036854775807) : Row τ r w T (.slice (some ⟨g, 0, none⟩) m m) (List.replicate m u) := by
  have hl : (madeCells #[u] m).toList = List.replicate m u := by rw [toList_madeCells_one]
  have := Row.mk' (τ := τ) (r := r) (w := w) (e := T) (g := g) (cs := madeCells #[u] m) (xs := List.replicate m u) (cap := m) ⟨h, hr⟩ (by simp) hm (by rw [← Array.length_toList, hl]; simp) (by rw [hl]; simp)
  rwa [List.length_replicate] at this
theorem row_nil {τ : Nat → Nat} {r : Nat} {w : World} {T : TypeId} : Row τ r w T (.slice none 0 0) [] := ⟨World.ownsRow_nil w 0 T 1, fun g hg => by cases hg⟩
/-- The blocks of the search's first lists. -/
structure Bs where
  wb : Nat
  wo : Nat
  dp : Nat
  wy : Nat
  lk : Nat
  pl : Nat
  sc : Nat
  se : Nat
  co : Nat
def sl (g m : Nat) : Value := .slice (some ⟨g, 0, none⟩) m m
def iCells (n : Nat) (b : Bs) : Array Value := #[.slice none 0 0, sl b.wb (2 * n), sl b.wo (2 * n), .slice none 0 0, .slice none 0 0, .int .i64 0, sl b.dp n, sl b.wy n, sl b.lk n, .slice none 0 0, sl b.pl n, sl b.sc n, .int .i64 65536, sl b.se n, .slice none 0 0, sl b.co (n + 1), .int .i64 0, .int .i64 0, .int .i64 1, .int .i64 1, .int .i64 0, .int .i64 2000]
structure Laid (n : Nat) (τ : Nat → Nat) (w : World) (b : Bs) : Prop where
  wb : HasB w b.wb 209 (madeCells #[.slice none 0 0] (2 * n)) ∧ τ b.wb = 3
  wo : HasB w b.wo 137 (madeCells #[.int .i8 0] (2 * n)) ∧ τ b.wo = 4
  dp : HasB w b.dp 21 (madeCells #[.int .i32 0] n) ∧ τ b.dp = 8
  wy : HasB w b.wy 21 (madeCells #[.int .i32 0] n) ∧ τ b.wy = 9
  lk : HasB w b.lk 138 (madeCells #[.int .i32 0] n) ∧ τ b.lk = 10
  pl : HasB w b.pl 21 (madeCells #[.int .i32 (-1)] n) ∧ τ b.pl = 12
  sc : HasB w b.sc 2 (madeCells #[.int .i64 0] n) ∧ τ b.sc = 13
  se : HasB w b.se 4 (madeCells #[.bool false] n) ∧ τ b.se = 15
  co : HasB w b.co 3 (madeCells #[.int .i64 0] (n + 1)) ∧ τ b.co = 17
theorem Laid.sr {n B p : Nat} {τ : Nat → Nat} {w : World} {b : Bs} (h : Laid n τ w b) (hn : n ≤ 65536) (hp : HasB w p 136 (iCells n b)) (hr : τ p = 1) (hB : B ≤ w.heap.size) (hlow : ∀ k, k < B → τ k = 0) : Sr B τ w p n (dInit n) := by
  have mp : ∀ {α : Type} (f : α → Value) (m : Nat) (x : α), (List.replicate m x).map f = List.replicate m (f x) := fun f m x => List.map_replicate
  refine ⟨iCells n b, hB, hlow, ⟨hp, hr⟩, rfl, fun k hk => ?_, fun k hk => ?_, ⟨_, [], rfl, rfl, ⟨World.ownsRow_nil w 0 _ 3, fun g hg => by cases hg⟩, fun i c hc => by simp [dInit] at hc⟩, b.wb, madeCells #[.slice none 0 0] (2 * n), rfl, h.wb, ?_, fun q hq => ⟨.slice none 0 0, ⟨?_, fun e => ?_⟩, World.ownsRow_nil w 0 _ 2, fun g hg => by cases hg⟩⟩
  · rcases flat_cases hk with rfl | rfl | rfl | rfl | rfl | rfl | rfl | rfl | rfl | rfl | rfl | rfl
    · exact ⟨sl b.wo (2 * n), rfl, by simpa [rowOf, dInit, sl] using row_has h.wo.1 h.wo.2 (by omega)⟩
    · exact ⟨_, rfl, row_nil⟩
    · exact ⟨_, rfl, row_nil⟩
    · exact ⟨sl b.dp (n), rfl, by simpa [rowOf, dInit, sl] using row_has h.dp.1 h.dp.2 (by omega)⟩
    · exact ⟨sl b.wy (n), rfl, by simpa [rowOf, dInit, sl] using row_has h.wy.1 h.wy.2 (by omega)⟩
    · exact ⟨sl b.lk (n), rfl, by simpa [rowOf, dInit, sl] using row_has h.lk.1 h.lk.2 (by omega)⟩
    · exact ⟨_, rfl, row_nil⟩
    · exact ⟨sl b.pl (n), rfl, by simpa [rowOf, dInit, sl] using row_has h.pl.1 h.pl.2 (by omega)⟩
    · exact ⟨sl b.sc (n), rfl, by simpa [rowOf, dInit, sl] using row_has h.sc.1 h.sc.2 (by omega)⟩
    · exact ⟨sl b.se (n), rfl, by simpa [rowOf, dInit, sl] using row_has h.se.1 h.se.2 (by omega)⟩
    · exact ⟨_, rfl, row_nil⟩
    · exact ⟨sl b.co (n + 1), rfl, by simpa [rowOf, dInit, sl] using row_has h.co.1 h.co.2 (by omega)⟩
  · rcases isnum_cases hk with rfl | rfl | rfl | rfl | rfl | rfl | rfl | rfl <;> rfl
  · rw [← Array.length_toList, toList_madeCells_one]; simp
  · rw [← Array.getElem?_toList, toList_madeCells_one, List.getElem?_replicate, if_pos hq]
  · have e : q = 2 * n := e
    omega
end Go.Proofs.YtpmdnbdmocdngaaGreat
