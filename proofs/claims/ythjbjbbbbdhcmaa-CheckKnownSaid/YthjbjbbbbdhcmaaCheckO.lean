/-
  The document's own names: which names an instruction speaks of.
-/
import Derived.Test.YthjbjbbbbdhcmaaCheckN
namespace Go.Proofs.Ythjbjbbbbdhcmaa
open Go.ChangeShapes Go.WideShapes Go.ChangeAt Go.RowKit Go.Joins
set_option linter.unusedVariables false

def i64s (l : List Int) : List Value := l.map fun a => .int .i64 a
/-- A row of whole numbers of the call's own. -/
structure NRow (w wr : World) (v : Value) (l : List Int) : Prop where
  own : wr.ownsRow w.heap.size 3 1 v l.length (i64s l)
  gw : Gw w wr
theorem names_two {op a : Int} (h : op = 34) : namesOf (op, a) = [a / 8, a % 8] := by subst h; rfl
theorem names_one {op a : Int} (h : isName op = true) : namesOf (op, a) = [a] := by unfold namesOf; rw [if_pos h]
theorem names_none {op a : Int} (h : isName op = false) (h2 : op ≠ 34) : namesOf (op, a) = [] := by unfold namesOf; rw [if_neg (by rw [h]; decide), if_neg h2]
theorem isName_any {op : Int} : isName op = true ↔ op = 27 ∨ op = 33 ∨ op = 35 ∨ op = 36 ∨ op = 37 := by
  unfold isName
  simp only [Bool.or_eq_true, beq_iff_eq]
  omega
theorem tdiv8 {a : Int} (h : 0 ≤ a) : a.tdiv 8 = a / 8 := Int.tdiv_eq_ediv_of_nonneg h
theorem tmod8 {a : Int} (h : 0 ≤ a) : a.tmod 8 = a % 8 := Int.tmod_eq_emod_of_nonneg h
theorem nlit (W w : World) (h : Gw W w) (l : List Int) (hl : l.length ≤ maxLen) : NRow W (w.alloc (.cells (i64s l).toArray 3)) (.slice (some ⟨w.heap.size, 0, none⟩) l.length l.length) l :=
  ⟨by have := World.ownsRow_lit (e := 3) (size := 1) w (i64s l).toArray l.length h.size hl (by simp [i64s]); simpa using this, h.trans (Gw.alloc _ _)⟩
set_option maxRecDepth 100000 in
set_option maxHeartbeats 4000000 in
theorem rnames_any (op a : Int) (W : World) (h0 : 0 ≤ a) (h1 : a ≤ 65535) : Calls Try.prog 19 #[.agg #[.int .i64 op, .int .i64 a]] W fun e W' => ∃ v, e = .returned v ∧ NRow W W' v (namesOf (op, a)) := by
  obtain ⟨c0, c1, f0, f1⟩ := two_cells (heap_alloc_new W (.cells #[.int .i64 op, .int .i64 a] 38))
  have HG := Lib.hid (Gw.alloc W (.cells #[.int .i64 op, .int .i64 a] 38))
  by_cases hn : isName op = true
  · have HN := Lib.hid (names_one (a := a) hn)
    have h5 := isName_any.1 hn
    have HL := Lib.hid (nlit W _ HG.out [a] (by simp [maxLen]))
    clear hn
    rcases h5 with rfl | rfl | rfl | rfl | rfl
    all_goals
      go_enter Try.func19, Try.ntmps19
      go_wp2
      go_ret
      exact ⟨_, rfl, by rw [HN.out]; have := HL.out; rw [size_alloc] at this; exact this⟩
  · have hn' : isName op = false := by simpa using hn
    have hx : ¬ (op = 27 ∨ op = 33 ∨ op = 35 ∨ op = 36 ∨ op = 37) := fun k => hn (isName_any.2 k)
    have b1 : (op == 27) = false := by simp; omega
    have b2 : (op == 33) = false := by simp; omega
    have b3 : (op == 35) = false := by simp; omega
    have b4 : (op == 36) = false := by simp; omega
    have b5 : (op == 37) = false := by simp; omega
    by_cases h34 : op = 34
    · have HN := Lib.hid (names_two (a := a) h34)
      have b6 : (op == 34) = true := by simp [h34]
      have t1 := tdiv8 h0
      have t2 := tmod8 h0
      have w1 : IntKind.i64.wrap (a / 8) = a / 8 := wrap_in (by omega) (by omega)
      have w2 : IntKind.i64.wrap (a % 8) = a % 8 := wrap_in (by omega) (by omega)
      have HL := Lib.hid (nlit W _ HG.out [a / 8, a % 8] (by simp [maxLen]))
      clear h34 hn hn' hx
      go_enter Try.func19, Try.ntmps19
      go_wp2
      go_ret
      exact ⟨_, rfl, by rw [HN.out]; have := HL.out; rw [size_alloc] at this; exact this⟩
    · have b6 : (op == 34) = false := by simp [h34]
      have HN := Lib.hid (names_none (a := a) hn' h34)
      clear hn hn' hx h34
      go_enter Try.func19, Try.ntmps19
      go_wp2
      go_ret
      exact ⟨_, rfl, by rw [HN.out]; exact ⟨⟨rfl, .inl ⟨rfl, rfl⟩⟩, HG.out⟩⟩
end Go.Proofs.Ythjbjbbbbdhcmaa
