/-
  Pure of package clause: what it answers at every formula.
-/
import Derived.Test.YtdgmjdppiolkkaaClauQ
namespace Go.Proofs.Ytdgmjdppiolkkaa
open Go.ChangeShapes Go.WideShapes Go.ChangeAt Go.RowKit
set_option linter.unusedVariables false

theorem mem_flat {f : List (List Int)} {x : Int} : inF f x = decide (x ∈ f.flatten) := by
  rw [Bool.eq_iff_iff, inF_iff, decide_eq_true_iff, List.mem_flatten]
theorem pure_code (f : List (List Int)) (v : Nat) : (code f.flatten v = 0 ∧ pure1 f v = []) ∨ (code f.flatten v = 1 ∧ pure1 f v = [(v : Int)]) ∨ (code f.flatten v = 2 ∧ pure1 f v = [-(v : Int)]) ∨ (code f.flatten v = 3 ∧ pure1 f v = []) := by
  unfold code pure1
  rw [mem_flat, mem_flat]
  by_cases a : (v : Int) ∈ f.flatten <;> by_cases b : -(v : Int) ∈ f.flatten <;> simp only [a, b, decide_true, decide_false, if_true, if_false, Bool.not_true, Bool.not_false, Bool.and_true, Bool.and_false, Bool.false_eq_true] <;> simp
/-- What Pure has answered of the numbers below k. -/
def pureB (f : List (List Int)) (k : Nat) : List Int := pureTo f (k - 1)
theorem pureB_zero (f : List (List Int)) : pureB f 0 = [] := rfl
theorem code_zero {n : Int} {f : List (List Int)} (h : okF n f = true) : code f.flatten 0 = 0 := by
  have : ¬ (0 : Int) ∈ f.flatten := fun hm => by
    obtain ⟨c, hc, hl⟩ := List.mem_flatten.1 hm
    have := okF_mem h hc hl
    unfold okL at this; rw [decide_eq_true_iff] at this
    have h0 : numb 0 = 0 := numb_pos (Int.le_refl _)
    omega
  unfold code; simp [this]
theorem pureB_succ {n : Int} {f : List (List Int)} (h : okF n f = true) (k : Nat) : pureB f (k + 1) = pureB f k ++ (if k = 0 then [] else pure1 f k) := by
  unfold pureB
  cases k with
  | zero => simp [pureTo]
  | succ k => rw [show k + 1 + 1 - 1 = k + 1 from rfl, show k + 1 - 1 = k from rfl, pureTo_succ]; simp
theorem pure_next {n : Int} {f : List (List Int)} (h : okF n f = true) (k : Nat) : (code f.flatten k = 0 ∧ pureB f (k + 1) = pureB f k) ∨ (code f.flatten k = 1 ∧ pureB f (k + 1) = pureB f k ++ [(k : Int)]) ∨ (code f.flatten k = 2 ∧ pureB f (k + 1) = pureB f k ++ [-(k : Int)]) ∨ (code f.flatten k = 3 ∧ pureB f (k + 1) = pureB f k) := by
  rw [pureB_succ h]
  by_cases k0 : k = 0
  · subst k0; exact .inl ⟨code_zero h, by simp⟩
  · rw [if_neg k0]
    rcases pure_code f k with ⟨a, b⟩ | ⟨a, b⟩ | ⟨a, b⟩ | ⟨a, b⟩ <;> rw [a, b] <;> simp
theorem pureB_len (f : List (List Int)) (k : Nat) : (pureB f k).length ≤ k := by unfold pureB; have := pureTo_len f (k - 1); omega
def PurePost (l : List Int) (w : World) (e : Ending) (w' : World) : Prop := ∃ A cap, e = .returned (.slice A l.length cap) ∧ SeqAt (Value.int .i64) w' A l ∧ Below w.heap.size w w'
theorem pure_no (n : Int) (A : Option Addr) (f : List (List Int)) (fcap : Nat) (w : World) (hn : Wf n) (hf : FormAt w A f) (hl : f.length ≤ 9223372036854775807) (hm : mayM n f = false) :
    Calls Try.prog 16 #[.int .i64 n, .slice A f.length fcap] w (PurePost [] w) := by
  have c := may_any n A f fcap w hn hf hl
  rw [hm] at c
  clear hf hm
  go_enter Try.func16, Try.ntmps16
  go_wp2_with (go_at_call 12; ((with_reducible refine c.mono ?_); rintro e w' ⟨rfl, rfl⟩))
  go_ret
  exact ⟨none, 0, rfl, SeqAt.nil _ _, Below.refl _ _⟩
set_option maxHeartbeats 1600000 in
theorem pure_yes (n : Nat) (A : Option Addr) (f : List (List Int)) (fcap : Nat) (w : World) (hf : FormAt w A f) (hl : f.length ≤ 9223372036854775807) (hm : mayM n f = true) :
    Calls Try.prog 16 #[.int .i64 n, .slice A f.length fcap] w (PurePost (pureTo f n) w) := by
  have hn : n ≤ 65536 := by
    unfold mayM at hm; rw [Bool.and_eq_true, decide_eq_true_iff] at hm; omega
  have hok : okF n f = true := by rw [← may_of (by omega) (by omega)]; exact hm
  have c := may_any n A f fcap w ⟨by omega, by omega⟩ hf hl
  rw [hm] at c
  have c2 := Lib.hid (signs_any n A f fcap w hn hf hl hok)
  have HOK := Lib.hid hok
  clear hf hm hok
  obtain ⟨i0, hi, hz0, hz1, hz2⟩ := info_parts infoInt
  have HI := Lib.hid (show _ ∧ _ ∧ _ ∧ _ from ⟨hi, hz0, hz1, hz2⟩)
  clear hi hz0 hz1 hz2
  go_enter Try.func16, Try.ntmps16
  go_wp2_with (go_at_call 12; ((with_reducible refine c.mono ?_); rintro e w' ⟨rfl, rfl⟩))
  refine c2.out.mono ?_
  rintro e w1 ⟨g, rfl, R⟩
  have HR := Lib.hid R
  clear R c
  go_wp2_with fail
  go_loopw [5, 16] (fun v i wr => ∃ (k : Nat) (B : Option Addr) (bcap : Nat), k ≤ n + 1 ∧ i = .int .i64 k ∧ v = .slice B (pureB f k).length bcap ∧ Hid (LRel w1 wr 3 (.slice B (pureB f k).length bcap) (ints (pureB f k)))) (fun _ i _ => n + 1 - (intOf i).toNat)
  case atStart => exact ⟨0, none, 0, by omega, rfl, rfl, LRel.nil w1 _⟩
  case round =>
    obtain ⟨k, B, bcap, hk, rfl, rfl, R⟩ := hrel
    by_cases hlt : k < n + 1
    · have hlt' : (k : Int) < (n : Int) + 1 := by omega
      have hcg : wr.cell? ⟨g, k, none⟩ = some (.int .i64 (code f.flatten k)) := by rw [(HR.out.has.keep R.out.below).cell, sgArr_get hlt]
      have HS : Hid (w1.heap.size ≤ wr.heap.size) := R.out.below.size
      have hle := pureB_len f k
      have HO : Hid (wr.ownsRow w1.heap.size 3 1 (.slice B (pureB f k).length bcap) (pureB f k).length (ints (pureB f k))) := by have := R.out.own; rw [List.length_map] at this; exact this
      rcases pure_next HOK.out k with ⟨hc, he⟩ | ⟨hc, he⟩ | ⟨hc, he⟩ | ⟨hc, he⟩
      all_goals
        rw [hc] at hcg
        have HE := Lib.hid he
        clear hc he
        generalize pureB f k = l at *
      · go_wp2_with fail
        go_roundw
        case rel => exact ⟨k + 1, B, bcap, by omega, by go_num, by rw [HE.out], by rw [HE.out]; exact R.out⟩
        case measure => simp [intOf]; omega
      · go_wp2_with (at_builtin; refine wpList_append_lies _ rfl _ _ _ rfl w1.heap.size 3 i0 _ 1 8 Try.underlying27 HI.out.1 HI.out.2.1 HI.out.2.2.1 HI.out.2.2.2 rfl (by omega) (.slice B l.length bcap) l.length (ints l) rfl (HO.out.alloc _) ⟨wr.heap.size, 0, none⟩ 1 1 [.int .i64 (k : Int)] rfl rfl (World.news_of_block (cs := #[.int .i64 (k : Int)]) (t := 3) (fr := (0, 0)) (new_heap wr _)) (by simp [Value.oneCell']) (by omega) (by unfold maxLen; omega) (by omega) (by have := HS.out; simp; omega) (wr.heap.size + 1) (by simp) ?_; intro g1 c1 wp hown1 hg1 hat1 hlt1; have HO1 := Lib.hid hown1; have HG1 := Lib.hid hg1; clear hown1 hg1 hat1 hlt1)
        go_roundw
        case rel => exact ⟨k + 1, some ⟨g1, 0, none⟩, c1, by omega, by go_num, by rw [HE.out, List.length_append]; rfl, by
          rw [HE.out]
          have hx := R.out.more (x := .int .i64 (k : Int)) (g := g1) (cap := c1) (by rw [List.length_map]; exact HO1.out) HG1.out
          simp only [List.length_map, List.length_append, List.map_append] at hx ⊢
          exact hx⟩
        case measure => simp [intOf]; omega
      · go_wp2_with (at_builtin; refine wpList_append_lies _ rfl _ _ _ rfl w1.heap.size 3 i0 _ 1 8 Try.underlying27 HI.out.1 HI.out.2.1 HI.out.2.2.1 HI.out.2.2.2 rfl (by omega) (.slice B l.length bcap) l.length (ints l) rfl (HO.out.alloc _) ⟨wr.heap.size, 0, none⟩ 1 1 [.int .i64 (-(k : Int))] rfl rfl (World.news_of_block (cs := #[.int .i64 (-(k : Int))]) (t := 3) (fr := (0, 0)) (new_heap wr _)) (by simp [Value.oneCell']) (by omega) (by unfold maxLen; omega) (by omega) (by have := HS.out; simp; omega) (wr.heap.size + 1) (by simp) ?_; intro g1 c1 wp hown1 hg1 hat1 hlt1; have HO1 := Lib.hid hown1; have HG1 := Lib.hid hg1; clear hown1 hg1 hat1 hlt1)
        go_roundw
        case rel => exact ⟨k + 1, some ⟨g1, 0, none⟩, c1, by omega, by go_num, by rw [HE.out, List.length_append]; rfl, by
          rw [HE.out]
          have hx := R.out.more (x := .int .i64 (-(k : Int))) (g := g1) (cap := c1) (by rw [List.length_map]; exact HO1.out) HG1.out
          simp only [List.length_map, List.length_append, List.map_append] at hx ⊢
          exact hx⟩
        case measure => simp [intOf]; omega
      · go_wp2_with fail
        go_roundw
        case rel => exact ⟨k + 1, B, bcap, by omega, by go_num, by rw [HE.out], by rw [HE.out]; exact R.out⟩
        case measure => simp [intOf]; omega
    · obtain rfl : k = n + 1 := by omega
      have HE := Lib.hid (show pureB f (n + 1) = pureTo f n from rfl)
      go_wp2_with fail
      go_ret
      exact ⟨B, bcap, by rw [HE.out]; (first | done | rfl), seq_own (by have := R.out.own; rw [List.length_map] at this; exact this), HR.out.below.trans (R.out.below.mono HR.out.below.size)⟩
end Go.Proofs.Ytdgmjdppiolkkaa
