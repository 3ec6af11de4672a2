/-
  What table, Row, InstMay and Falls of the document's own answers give back: contracts for the seat's laws.
-/
import Derived.Test.YthjbjbbbbdhcmaaInstC
import Derived.Deep.QuietTactic
import Derived.BigQuiet
import Derived.ProofKit
import Derived.OpenShut
import Derived.Laws.Rows
import Derived.Laws.ResultCell
namespace Go.Proofs.Ythjbjbbbbdhcmaa
open Go.ChangeShapes Go.WideShapes Go.ChangeAt Go.RowKit
set_option linter.unusedVariables false

theorem build_row2 (s : ByteArray) (a b c : Int) (W : World) : (Instr.build 60 #[(0, .string s), (1, .int .i64 a), (2, .int .i64 b), (3, .int .i64 c)]).run Try.prog W = .ok (.agg #[.string s, .int .i64 a, .int .i64 b, .int .i64 c]) W := by kernel_rfl
theorem build_nought2 (W : World) : (Instr.build 60 #[]).run Try.prog W = .ok (.agg #[.string ⟨#[]⟩, .int .i64 0, .int .i64 0, .int .i64 0]) W := by kernel_rfl
theorem wp_by {P : Program} {o : Oper} {a : Act} {w : World} {next : Act → World → Prop} {Q : Exit → Act → World → Prop} {v : Value} {w' : World}
    (h : (execOp a.eval o).run P w = .ok (.value v) w') (k : next (a.put o.dst v) w') : Oper.wp P o a w next Q := by
  unfold Oper.wp
  rw [h]
  exact k
set_option maxHeartbeats 4000000 in
set_option maxRecDepth 100000 in
theorem table_any (W : World) : Calls Try.prog 21 #[] W fun e W' => e = .returned (.slice (some ⟨W.heap.size, 0, none⟩) 42 42) ∧ W' = W.alloc (.cells tabV 60) := by
  have h1 := build_row2
  have h2 := build_nought2
  go_enter Try.func21, Try.ntmps21
  go_wp2
  refine wp_by (v := .slice (some ⟨W.heap.size, 0, none⟩) 42 42) (w' := W.alloc (.cells tabV 60)) (by kernel_rfl) ?_
  go_wp2
  go_ret
  exact ⟨rfl, rfl⟩
def rfallsB (op : Int) : Bool := op == 27 || op == 29 || op == 30 || op == 33 || op == 34 || op == 35 || op == 36 || op == 38
end Go.Proofs.Ythjbjbbbbdhcmaa
