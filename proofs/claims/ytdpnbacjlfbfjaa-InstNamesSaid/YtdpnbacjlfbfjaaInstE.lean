/-
  What the first sentence of each law gives back: contracts for the seat's laws.
-/
import Derived.Test.YtdpnbacjlfbfjaaInstD
import Derived.Deep.QuietTactic
import Derived.BigQuiet
import Derived.ProofKit
import Derived.OpenShut
import Derived.Laws.Rows
import Derived.Laws.ResultCell
namespace Go.Proofs.Ytdpnbacjlfbfjaa
open Go.ChangeShapes Go.WideShapes Go.ChangeAt Go.RowKit
set_option linter.unusedVariables false

theorem build_inst (a b : Int) (W : World) : (Instr.build 23 #[(0, .int .i64 a), (1, .int .i64 b)]).run Try.prog W = .ok (.agg #[.int .i64 a, .int .i64 b]) W := by kernel_rfl
theorem build_inst0 (a : Int) (W : World) : (Instr.build 23 #[(0, .int .i64 a)]).run Try.prog W = .ok (.agg #[.int .i64 a, .int .i64 0]) W := by kernel_rfl
theorem set_two (w : World) (a0 b0 a b : Value) (t : TypeId) : ((w.alloc (.cells #[a0, b0] t)).setCell ⟨w.heap.size, 0, none⟩ a).setCell ⟨w.heap.size, 1, none⟩ b = w.alloc (.cells #[a, b] t) := by
  rw [set_new, set_new]
  rfl
theorem awake9_any (W : World) : Calls Try.prog 7 #[] W fun e W' => e = .returned (.bool true) ∧ Grown W W' := by
  have e1 : ∀ W : World, Calls Try.prog 12 #[.int .i64 29] W fun e W' => e = .returned (.int .i64 3) ∧ Grown W W' := fun W => takes_yes 29 (by decide) (by decide) W
  have e2 : ∀ W : World, Calls Try.prog 13 #[.int .i64 29] W fun e W' => e = .returned (.int .i64 1) ∧ Grown W W' := fun W => gives_yes 29 (by decide) (by decide) W
  have e3 : ∀ W : World, Calls Try.prog 11 #[.int .i64 1] W fun e W' => e = .returned (.string ⟨#[112, 117, 115, 104]⟩) ∧ Grown W W' := fun W => name_yes 1 (by decide) (by decide) W
  have e4 : ∀ W : World, Calls Try.prog 9 #[.agg #[.int .i64 1, .int .i64 7]] W fun e W' => e = .returned (.bool true) ∧ Grown W W' := fun W => may_yes 1 7 (by decide) (by decide) W
  have e5 : ∀ W : World, Calls Try.prog 14 #[.int .i64 23] W fun e W' => e = .returned (.bool true) ∧ W' = W := fun W => jumps_any 23 W
  have e6 : ∀ W : World, Calls Try.prog 15 #[.int .i64 26] W fun e W' => e = .returned (.bool true) ∧ W' = W := fun W => ends_any 26 W
  have e7 : ∀ W : World, Calls Try.prog 16 #[.int .i64 29] W fun e W' => e = .returned (.bool true) ∧ W' = W := fun W => falls_any 29 W
  have hb := build_inst
  have GT := Grown.refl W
  go_enter Try.func7, Try.ntmps7
  go_wp2_with (first | (go_at_call 12; with_reducible refine (e1 _).mono ?_; rintro e w' ⟨rfl, G1⟩; have GT := grown_trans GT G1) | (go_at_call 13; with_reducible refine (e2 _).mono ?_; rintro e w' ⟨rfl, G1⟩; have GT := grown_trans GT G1) | (go_at_call 11; with_reducible refine (e3 _).mono ?_; rintro e w' ⟨rfl, G1⟩; have GT := grown_trans GT G1) | (go_at_call 9; with_reducible refine (e4 _).mono ?_; rintro e w' ⟨rfl, G1⟩; have GT := grown_trans GT G1) | (go_at_call 14; with_reducible refine (e5 _).mono ?_; rintro e w' ⟨rfl, rfl⟩) | (go_at_call 15; with_reducible refine (e6 _).mono ?_; rintro e w' ⟨rfl, rfl⟩) | (go_at_call 16; with_reducible refine (e7 _).mono ?_; rintro e w' ⟨rfl, rfl⟩))
  go_ret
  exact ⟨rfl, GT⟩
end Go.Proofs.Ytdpnbacjlfbfjaa
