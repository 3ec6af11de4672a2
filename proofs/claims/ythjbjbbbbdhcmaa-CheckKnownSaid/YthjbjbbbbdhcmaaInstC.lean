/-
  What May, Name, Takes, Gives, Jumps, Ends and Falls of package inst give back: contracts for the seat's laws.
-/
import Derived.Test.YthjbjbbbbdhcmaaInstA
import Derived.ProofKit
import Derived.OpenShut
import Derived.Laws.Rows
import Derived.Laws.ResultCell
namespace Go.Proofs.Ythjbjbbbbdhcmaa
open Go.ChangeShapes Go.WideShapes Go.ChangeAt Go.RowKit
set_option linter.unusedVariables false

theorem takes_yes (k : Nat) (h1 : 1 ≤ k) (hk : k < 42) (W : World) :
    Calls Try.prog 31 #[.int .i64 k] W fun e W' => e = .returned (.int .i64 (tk k)) ∧ Grown W W' := by
  have hn1 : ∀ w, (Op.unary .not (.bool true)).run Try.prog w = .ok (.bool false) w := fun _ => rfl
  have hn2 : ∀ w, (Op.unary .not (.bool false)).run Try.prog w = .ok (.bool true) w := fun _ => rfl
  go_enter Try.func31, Try.ntmps31
  go_wp2_with (go_at_call 42; refine (find_yes k h1 hk _).mono ?_; rintro e w' ⟨rfl, G1⟩)
  rw [set_row]
  go_ret
  exact ⟨rfl, G1.alloc _ _⟩
theorem takes_no (k : Int) (h1 : ¬ (1 ≤ k ∧ k < 42)) (W : World) :
    Calls Try.prog 31 #[.int .i64 k] W fun e W' => e = .returned (.int .i64 (-1)) ∧ Grown W W' := by
  have hn1 : ∀ w, (Op.unary .not (.bool true)).run Try.prog w = .ok (.bool false) w := fun _ => rfl
  have hn2 : ∀ w, (Op.unary .not (.bool false)).run Try.prog w = .ok (.bool true) w := fun _ => rfl
  go_enter Try.func31, Try.ntmps31
  go_wp2_with (go_at_call 42; refine (find_no k h1 _).mono ?_; rintro e w' ⟨rfl, G1⟩)
  rw [set_row]
  go_ret
  exact ⟨rfl, G1.alloc _ _⟩
theorem gives_yes (k : Nat) (h1 : 1 ≤ k) (hk : k < 42) (W : World) :
    Calls Try.prog 32 #[.int .i64 k] W fun e W' => e = .returned (.int .i64 (gv k)) ∧ Grown W W' := by
  have hn1 : ∀ w, (Op.unary .not (.bool true)).run Try.prog w = .ok (.bool false) w := fun _ => rfl
  have hn2 : ∀ w, (Op.unary .not (.bool false)).run Try.prog w = .ok (.bool true) w := fun _ => rfl
  go_enter Try.func32, Try.ntmps32
  go_wp2_with (go_at_call 42; refine (find_yes k h1 hk _).mono ?_; rintro e w' ⟨rfl, G1⟩)
  rw [set_row]
  go_ret
  exact ⟨rfl, G1.alloc _ _⟩
theorem gives_no (k : Int) (h1 : ¬ (1 ≤ k ∧ k < 42)) (W : World) :
    Calls Try.prog 32 #[.int .i64 k] W fun e W' => e = .returned (.int .i64 (-1)) ∧ Grown W W' := by
  have hn1 : ∀ w, (Op.unary .not (.bool true)).run Try.prog w = .ok (.bool false) w := fun _ => rfl
  have hn2 : ∀ w, (Op.unary .not (.bool false)).run Try.prog w = .ok (.bool true) w := fun _ => rfl
  go_enter Try.func32, Try.ntmps32
  go_wp2_with (go_at_call 42; refine (find_no k h1 _).mono ?_; rintro e w' ⟨rfl, G1⟩)
  rw [set_row]
  go_ret
  exact ⟨rfl, G1.alloc _ _⟩
set_option maxHeartbeats 1000000
def mayB (k : Nat) (a : Int) : Bool := decide (0 ≤ a) && decide (a ≤ ms k)
theorem two_cells {w : World} {g : Nat} {a b : Value} {t : TypeId} (h : w.heap[g]? = some (.cells #[a, b] t (0, 0))) :
    w.cell? ⟨g, 0, none⟩ = some a ∧ w.cell? ⟨g, 1, none⟩ = some b ∧ w.frozen? ⟨g, 0, none⟩ = false ∧ w.frozen? ⟨g, 1, none⟩ = false := by
  simp [World.cell?, World.frozen?, h]
theorem sizes {W w' : World} {o : Obj} (h : Grown (W.alloc o) w') : W.heap.size < w'.heap.size := by
  have := h.2.2
  have e : (W.alloc o).heap.size = W.heap.size + 1 := by show (W.heap.push o).size = _; simp
  omega
theorem may_yes (k : Nat) (a : Int) (h1 : 1 ≤ k) (hk : k < 42) (W : World) :
    Calls Try.prog 40 #[.agg #[.int .i64 k, .int .i64 a]] W fun e W' => e = .returned (.bool (mayB k a)) ∧ Grown W W' := by
  have F := find_yes k h1 hk
  unfold mayB
  generalize nm k = n1 at F
  generalize tk k = n2 at F
  generalize gv k = n3 at F
  generalize ms k = n4 at F ⊢
  by_cases c1 : 0 ≤ a
  · go_enter Try.func40, Try.ntmps40
    go_wp2_with (go_at_call 42; refine (F _).mono ?_; rintro e w' ⟨rfl, G1⟩; have GT := grown_trans ((Grown.refl _).alloc _ _) G1; obtain ⟨d0, d1, e0, e1⟩ := two_cells (grown_row G1 (heap_alloc_new _ _)); have hlt : W.heap.size < w'.heap.size := sizes G1; have hne : ¬ (W.heap.size = w'.heap.size) := Nat.ne_of_lt hlt; have hne' : ¬ (w'.heap.size = W.heap.size) := fun h => hne h.symm)
    rw [set_row]
    go_ret
    exact ⟨by simp [c1], GT.alloc _ _⟩
  · go_enter Try.func40, Try.ntmps40
    go_wp2_with (go_at_call 42; refine (F _).mono ?_; rintro e w' ⟨rfl, G1⟩; have GT := grown_trans ((Grown.refl _).alloc _ _) G1; obtain ⟨d0, d1, e0, e1⟩ := two_cells (grown_row G1 (heap_alloc_new _ _)); have hlt : W.heap.size < w'.heap.size := sizes G1; have hne : ¬ (W.heap.size = w'.heap.size) := Nat.ne_of_lt hlt; have hne' : ¬ (w'.heap.size = W.heap.size) := fun h => hne h.symm)
    rw [set_row]
    go_ret
    exact ⟨by rw [decide_eq_false (by omega : ¬ 0 ≤ a)]; simp, GT.alloc _ _⟩
theorem may_no (k a : Int) (h1 : ¬ (1 ≤ k ∧ k < 42)) (W : World) :
    Calls Try.prog 40 #[.agg #[.int .i64 k, .int .i64 a]] W fun e W' => e = .returned (.bool false) ∧ Grown W W' := by
  go_enter Try.func40, Try.ntmps40
  go_wp2_with (go_at_call 42; refine (find_no k h1 _).mono ?_; rintro e w' ⟨rfl, G1⟩; have GT := grown_trans ((Grown.refl _).alloc _ _) G1; obtain ⟨d0, d1, e0, e1⟩ := two_cells (grown_row G1 (heap_alloc_new _ _)); have hlt : W.heap.size < w'.heap.size := sizes G1; have hne : ¬ (W.heap.size = w'.heap.size) := Nat.ne_of_lt hlt; have hne' : ¬ (w'.heap.size = W.heap.size) := fun h => hne h.symm)
  rw [set_row]
  go_ret
  exact ⟨rfl, GT.alloc _ _⟩
def jumpsB (op : Int) : Bool := op == 22 || op == 23
theorem jumps_any (op : Int) (W : World) : Calls Try.prog 33 #[.int .i64 op] W fun e W' => e = .returned (.bool (jumpsB op)) ∧ W' = W := by
  go_enter Try.func33, Try.ntmps33
  go_wp2
  all_goals
    go_ret
    refine ⟨?_, rfl⟩
    first | rfl | (simp_all [jumpsB])
def endsB (op : Int) : Bool := op == 22 || op == 26
theorem ends_any (op : Int) (W : World) : Calls Try.prog 34 #[.int .i64 op] W fun e W' => e = .returned (.bool (endsB op)) ∧ W' = W := by
  go_enter Try.func34, Try.ntmps34
  go_wp2
  all_goals
    go_ret
    refine ⟨?_, rfl⟩
    first | rfl | (simp_all [endsB])
def fallsB (op : Int) : Bool := op == 27 || op == 29 || op == 30 || op == 33 || op == 34 || op == 35 || op == 36 || op == 38
end Go.Proofs.Ythjbjbbbbdhcmaa
