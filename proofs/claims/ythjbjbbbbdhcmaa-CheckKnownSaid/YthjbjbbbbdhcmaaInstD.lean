/-
  What table, Row, InstMay and Falls of the document's own answers give back: contracts for the seat's laws.
-/
import Derived.Test.YthjbjbbbbdhcmaaInstB
import Derived.Deep.QuietTactic
import Derived.BigQuiet
import Derived.ProofKit
import Derived.OpenShut
import Derived.Laws.Rows
import Derived.Laws.ResultCell
namespace Go.Proofs.Ythjbjbbbbdhcmaa
open Go.ChangeShapes Go.WideShapes Go.ChangeAt Go.RowKit
set_option linter.unusedVariables false

theorem tab_at0 : tabV[0 * 4]? = some (.string (nm 0)) ∧ tabV[0 * 4 + 1]? = some (.int .i64 (tk 0)) ∧ tabV[0 * 4 + 2]? = some (.int .i64 (gv 0)) ∧ tabV[0 * 4 + 3]? = some (.int .i64 (ms 0)) := ⟨by kernel_rfl, by kernel_rfl, by kernel_rfl, by kernel_rfl⟩
theorem tab_at1 : tabV[1 * 4]? = some (.string (nm 1)) ∧ tabV[1 * 4 + 1]? = some (.int .i64 (tk 1)) ∧ tabV[1 * 4 + 2]? = some (.int .i64 (gv 1)) ∧ tabV[1 * 4 + 3]? = some (.int .i64 (ms 1)) := ⟨by kernel_rfl, by kernel_rfl, by kernel_rfl, by kernel_rfl⟩
theorem tab_at2 : tabV[2 * 4]? = some (.string (nm 2)) ∧ tabV[2 * 4 + 1]? = some (.int .i64 (tk 2)) ∧ tabV[2 * 4 + 2]? = some (.int .i64 (gv 2)) ∧ tabV[2 * 4 + 3]? = some (.int .i64 (ms 2)) := ⟨by kernel_rfl, by kernel_rfl, by kernel_rfl, by kernel_rfl⟩
theorem tab_at3 : tabV[3 * 4]? = some (.string (nm 3)) ∧ tabV[3 * 4 + 1]? = some (.int .i64 (tk 3)) ∧ tabV[3 * 4 + 2]? = some (.int .i64 (gv 3)) ∧ tabV[3 * 4 + 3]? = some (.int .i64 (ms 3)) := ⟨by kernel_rfl, by kernel_rfl, by kernel_rfl, by kernel_rfl⟩
theorem tab_at4 : tabV[4 * 4]? = some (.string (nm 4)) ∧ tabV[4 * 4 + 1]? = some (.int .i64 (tk 4)) ∧ tabV[4 * 4 + 2]? = some (.int .i64 (gv 4)) ∧ tabV[4 * 4 + 3]? = some (.int .i64 (ms 4)) := ⟨by kernel_rfl, by kernel_rfl, by kernel_rfl, by kernel_rfl⟩
theorem tab_at5 : tabV[5 * 4]? = some (.string (nm 5)) ∧ tabV[5 * 4 + 1]? = some (.int .i64 (tk 5)) ∧ tabV[5 * 4 + 2]? = some (.int .i64 (gv 5)) ∧ tabV[5 * 4 + 3]? = some (.int .i64 (ms 5)) := ⟨by kernel_rfl, by kernel_rfl, by kernel_rfl, by kernel_rfl⟩
theorem tab_at6 : tabV[6 * 4]? = some (.string (nm 6)) ∧ tabV[6 * 4 + 1]? = some (.int .i64 (tk 6)) ∧ tabV[6 * 4 + 2]? = some (.int .i64 (gv 6)) ∧ tabV[6 * 4 + 3]? = some (.int .i64 (ms 6)) := ⟨by kernel_rfl, by kernel_rfl, by kernel_rfl, by kernel_rfl⟩
theorem tab_at7 : tabV[7 * 4]? = some (.string (nm 7)) ∧ tabV[7 * 4 + 1]? = some (.int .i64 (tk 7)) ∧ tabV[7 * 4 + 2]? = some (.int .i64 (gv 7)) ∧ tabV[7 * 4 + 3]? = some (.int .i64 (ms 7)) := ⟨by kernel_rfl, by kernel_rfl, by kernel_rfl, by kernel_rfl⟩
theorem tab_at8 : tabV[8 * 4]? = some (.string (nm 8)) ∧ tabV[8 * 4 + 1]? = some (.int .i64 (tk 8)) ∧ tabV[8 * 4 + 2]? = some (.int .i64 (gv 8)) ∧ tabV[8 * 4 + 3]? = some (.int .i64 (ms 8)) := ⟨by kernel_rfl, by kernel_rfl, by kernel_rfl, by kernel_rfl⟩
theorem tab_at9 : tabV[9 * 4]? = some (.string (nm 9)) ∧ tabV[9 * 4 + 1]? = some (.int .i64 (tk 9)) ∧ tabV[9 * 4 + 2]? = some (.int .i64 (gv 9)) ∧ tabV[9 * 4 + 3]? = some (.int .i64 (ms 9)) := ⟨by kernel_rfl, by kernel_rfl, by kernel_rfl, by kernel_rfl⟩
theorem tab_at10 : tabV[10 * 4]? = some (.string (nm 10)) ∧ tabV[10 * 4 + 1]? = some (.int .i64 (tk 10)) ∧ tabV[10 * 4 + 2]? = some (.int .i64 (gv 10)) ∧ tabV[10 * 4 + 3]? = some (.int .i64 (ms 10)) := ⟨by kernel_rfl, by kernel_rfl, by kernel_rfl, by kernel_rfl⟩
theorem tab_at11 : tabV[11 * 4]? = some (.string (nm 11)) ∧ tabV[11 * 4 + 1]? = some (.int .i64 (tk 11)) ∧ tabV[11 * 4 + 2]? = some (.int .i64 (gv 11)) ∧ tabV[11 * 4 + 3]? = some (.int .i64 (ms 11)) := ⟨by kernel_rfl, by kernel_rfl, by kernel_rfl, by kernel_rfl⟩
theorem tab_at12 : tabV[12 * 4]? = some (.string (nm 12)) ∧ tabV[12 * 4 + 1]? = some (.int .i64 (tk 12)) ∧ tabV[12 * 4 + 2]? = some (.int .i64 (gv 12)) ∧ tabV[12 * 4 + 3]? = some (.int .i64 (ms 12)) := ⟨by kernel_rfl, by kernel_rfl, by kernel_rfl, by kernel_rfl⟩
theorem tab_at13 : tabV[13 * 4]? = some (.string (nm 13)) ∧ tabV[13 * 4 + 1]? = some (.int .i64 (tk 13)) ∧ tabV[13 * 4 + 2]? = some (.int .i64 (gv 13)) ∧ tabV[13 * 4 + 3]? = some (.int .i64 (ms 13)) := ⟨by kernel_rfl, by kernel_rfl, by kernel_rfl, by kernel_rfl⟩
theorem tab_at14 : tabV[14 * 4]? = some (.string (nm 14)) ∧ tabV[14 * 4 + 1]? = some (.int .i64 (tk 14)) ∧ tabV[14 * 4 + 2]? = some (.int .i64 (gv 14)) ∧ tabV[14 * 4 + 3]? = some (.int .i64 (ms 14)) := ⟨by kernel_rfl, by kernel_rfl, by kernel_rfl, by kernel_rfl⟩
theorem tab_at15 : tabV[15 * 4]? = some (.string (nm 15)) ∧ tabV[15 * 4 + 1]? = some (.int .i64 (tk 15)) ∧ tabV[15 * 4 + 2]? = some (.int .i64 (gv 15)) ∧ tabV[15 * 4 + 3]? = some (.int .i64 (ms 15)) := ⟨by kernel_rfl, by kernel_rfl, by kernel_rfl, by kernel_rfl⟩
theorem tab_at16 : tabV[16 * 4]? = some (.string (nm 16)) ∧ tabV[16 * 4 + 1]? = some (.int .i64 (tk 16)) ∧ tabV[16 * 4 + 2]? = some (.int .i64 (gv 16)) ∧ tabV[16 * 4 + 3]? = some (.int .i64 (ms 16)) := ⟨by kernel_rfl, by kernel_rfl, by kernel_rfl, by kernel_rfl⟩
theorem tab_at17 : tabV[17 * 4]? = some (.string (nm 17)) ∧ tabV[17 * 4 + 1]? = some (.int .i64 (tk 17)) ∧ tabV[17 * 4 + 2]? = some (.int .i64 (gv 17)) ∧ tabV[17 * 4 + 3]? = some (.int .i64 (ms 17)) := ⟨by kernel_rfl, by kernel_rfl, by kernel_rfl, by kernel_rfl⟩
theorem tab_at18 : tabV[18 * 4]? = some (.string (nm 18)) ∧ tabV[18 * 4 + 1]? = some (.int .i64 (tk 18)) ∧ tabV[18 * 4 + 2]? = some (.int .i64 (gv 18)) ∧ tabV[18 * 4 + 3]? = some (.int .i64 (ms 18)) := ⟨by kernel_rfl, by kernel_rfl, by kernel_rfl, by kernel_rfl⟩
theorem tab_at19 : tabV[19 * 4]? = some (.string (nm 19)) ∧ tabV[19 * 4 + 1]? = some (.int .i64 (tk 19)) ∧ tabV[19 * 4 + 2]? = some (.int .i64 (gv 19)) ∧ tabV[19 * 4 + 3]? = some (.int .i64 (ms 19)) := ⟨by kernel_rfl, by kernel_rfl, by kernel_rfl, by kernel_rfl⟩
theorem tab_at20 : tabV[20 * 4]? = some (.string (nm 20)) ∧ tabV[20 * 4 + 1]? = some (.int .i64 (tk 20)) ∧ tabV[20 * 4 + 2]? = some (.int .i64 (gv 20)) ∧ tabV[20 * 4 + 3]? = some (.int .i64 (ms 20)) := ⟨by kernel_rfl, by kernel_rfl, by kernel_rfl, by kernel_rfl⟩
theorem tab_at21 : tabV[21 * 4]? = some (.string (nm 21)) ∧ tabV[21 * 4 + 1]? = some (.int .i64 (tk 21)) ∧ tabV[21 * 4 + 2]? = some (.int .i64 (gv 21)) ∧ tabV[21 * 4 + 3]? = some (.int .i64 (ms 21)) := ⟨by kernel_rfl, by kernel_rfl, by kernel_rfl, by kernel_rfl⟩
theorem tab_at22 : tabV[22 * 4]? = some (.string (nm 22)) ∧ tabV[22 * 4 + 1]? = some (.int .i64 (tk 22)) ∧ tabV[22 * 4 + 2]? = some (.int .i64 (gv 22)) ∧ tabV[22 * 4 + 3]? = some (.int .i64 (ms 22)) := ⟨by kernel_rfl, by kernel_rfl, by kernel_rfl, by kernel_rfl⟩
theorem tab_at23 : tabV[23 * 4]? = some (.string (nm 23)) ∧ tabV[23 * 4 + 1]? = some (.int .i64 (tk 23)) ∧ tabV[23 * 4 + 2]? = some (.int .i64 (gv 23)) ∧ tabV[23 * 4 + 3]? = some (.int .i64 (ms 23)) := ⟨by kernel_rfl, by kernel_rfl, by kernel_rfl, by kernel_rfl⟩
theorem tab_at24 : tabV[24 * 4]? = some (.string (nm 24)) ∧ tabV[24 * 4 + 1]? = some (.int .i64 (tk 24)) ∧ tabV[24 * 4 + 2]? = some (.int .i64 (gv 24)) ∧ tabV[24 * 4 + 3]? = some (.int .i64 (ms 24)) := ⟨by kernel_rfl, by kernel_rfl, by kernel_rfl, by kernel_rfl⟩
theorem tab_at25 : tabV[25 * 4]? = some (.string (nm 25)) ∧ tabV[25 * 4 + 1]? = some (.int .i64 (tk 25)) ∧ tabV[25 * 4 + 2]? = some (.int .i64 (gv 25)) ∧ tabV[25 * 4 + 3]? = some (.int .i64 (ms 25)) := ⟨by kernel_rfl, by kernel_rfl, by kernel_rfl, by kernel_rfl⟩
theorem tab_at26 : tabV[26 * 4]? = some (.string (nm 26)) ∧ tabV[26 * 4 + 1]? = some (.int .i64 (tk 26)) ∧ tabV[26 * 4 + 2]? = some (.int .i64 (gv 26)) ∧ tabV[26 * 4 + 3]? = some (.int .i64 (ms 26)) := ⟨by kernel_rfl, by kernel_rfl, by kernel_rfl, by kernel_rfl⟩
theorem tab_at27 : tabV[27 * 4]? = some (.string (nm 27)) ∧ tabV[27 * 4 + 1]? = some (.int .i64 (tk 27)) ∧ tabV[27 * 4 + 2]? = some (.int .i64 (gv 27)) ∧ tabV[27 * 4 + 3]? = some (.int .i64 (ms 27)) := ⟨by kernel_rfl, by kernel_rfl, by kernel_rfl, by kernel_rfl⟩
theorem tab_at28 : tabV[28 * 4]? = some (.string (nm 28)) ∧ tabV[28 * 4 + 1]? = some (.int .i64 (tk 28)) ∧ tabV[28 * 4 + 2]? = some (.int .i64 (gv 28)) ∧ tabV[28 * 4 + 3]? = some (.int .i64 (ms 28)) := ⟨by kernel_rfl, by kernel_rfl, by kernel_rfl, by kernel_rfl⟩
theorem tab_at29 : tabV[29 * 4]? = some (.string (nm 29)) ∧ tabV[29 * 4 + 1]? = some (.int .i64 (tk 29)) ∧ tabV[29 * 4 + 2]? = some (.int .i64 (gv 29)) ∧ tabV[29 * 4 + 3]? = some (.int .i64 (ms 29)) := ⟨by kernel_rfl, by kernel_rfl, by kernel_rfl, by kernel_rfl⟩
theorem tab_at30 : tabV[30 * 4]? = some (.string (nm 30)) ∧ tabV[30 * 4 + 1]? = some (.int .i64 (tk 30)) ∧ tabV[30 * 4 + 2]? = some (.int .i64 (gv 30)) ∧ tabV[30 * 4 + 3]? = some (.int .i64 (ms 30)) := ⟨by kernel_rfl, by kernel_rfl, by kernel_rfl, by kernel_rfl⟩
theorem tab_at31 : tabV[31 * 4]? = some (.string (nm 31)) ∧ tabV[31 * 4 + 1]? = some (.int .i64 (tk 31)) ∧ tabV[31 * 4 + 2]? = some (.int .i64 (gv 31)) ∧ tabV[31 * 4 + 3]? = some (.int .i64 (ms 31)) := ⟨by kernel_rfl, by kernel_rfl, by kernel_rfl, by kernel_rfl⟩
theorem tab_at32 : tabV[32 * 4]? = some (.string (nm 32)) ∧ tabV[32 * 4 + 1]? = some (.int .i64 (tk 32)) ∧ tabV[32 * 4 + 2]? = some (.int .i64 (gv 32)) ∧ tabV[32 * 4 + 3]? = some (.int .i64 (ms 32)) := ⟨by kernel_rfl, by kernel_rfl, by kernel_rfl, by kernel_rfl⟩
theorem tab_at33 : tabV[33 * 4]? = some (.string (nm 33)) ∧ tabV[33 * 4 + 1]? = some (.int .i64 (tk 33)) ∧ tabV[33 * 4 + 2]? = some (.int .i64 (gv 33)) ∧ tabV[33 * 4 + 3]? = some (.int .i64 (ms 33)) := ⟨by kernel_rfl, by kernel_rfl, by kernel_rfl, by kernel_rfl⟩
theorem tab_at34 : tabV[34 * 4]? = some (.string (nm 34)) ∧ tabV[34 * 4 + 1]? = some (.int .i64 (tk 34)) ∧ tabV[34 * 4 + 2]? = some (.int .i64 (gv 34)) ∧ tabV[34 * 4 + 3]? = some (.int .i64 (ms 34)) := ⟨by kernel_rfl, by kernel_rfl, by kernel_rfl, by kernel_rfl⟩
theorem tab_at35 : tabV[35 * 4]? = some (.string (nm 35)) ∧ tabV[35 * 4 + 1]? = some (.int .i64 (tk 35)) ∧ tabV[35 * 4 + 2]? = some (.int .i64 (gv 35)) ∧ tabV[35 * 4 + 3]? = some (.int .i64 (ms 35)) := ⟨by kernel_rfl, by kernel_rfl, by kernel_rfl, by kernel_rfl⟩
theorem tab_at36 : tabV[36 * 4]? = some (.string (nm 36)) ∧ tabV[36 * 4 + 1]? = some (.int .i64 (tk 36)) ∧ tabV[36 * 4 + 2]? = some (.int .i64 (gv 36)) ∧ tabV[36 * 4 + 3]? = some (.int .i64 (ms 36)) := ⟨by kernel_rfl, by kernel_rfl, by kernel_rfl, by kernel_rfl⟩
theorem tab_at37 : tabV[37 * 4]? = some (.string (nm 37)) ∧ tabV[37 * 4 + 1]? = some (.int .i64 (tk 37)) ∧ tabV[37 * 4 + 2]? = some (.int .i64 (gv 37)) ∧ tabV[37 * 4 + 3]? = some (.int .i64 (ms 37)) := ⟨by kernel_rfl, by kernel_rfl, by kernel_rfl, by kernel_rfl⟩
theorem tab_at38 : tabV[38 * 4]? = some (.string (nm 38)) ∧ tabV[38 * 4 + 1]? = some (.int .i64 (tk 38)) ∧ tabV[38 * 4 + 2]? = some (.int .i64 (gv 38)) ∧ tabV[38 * 4 + 3]? = some (.int .i64 (ms 38)) := ⟨by kernel_rfl, by kernel_rfl, by kernel_rfl, by kernel_rfl⟩
theorem tab_at39 : tabV[39 * 4]? = some (.string (nm 39)) ∧ tabV[39 * 4 + 1]? = some (.int .i64 (tk 39)) ∧ tabV[39 * 4 + 2]? = some (.int .i64 (gv 39)) ∧ tabV[39 * 4 + 3]? = some (.int .i64 (ms 39)) := ⟨by kernel_rfl, by kernel_rfl, by kernel_rfl, by kernel_rfl⟩
theorem tab_at40 : tabV[40 * 4]? = some (.string (nm 40)) ∧ tabV[40 * 4 + 1]? = some (.int .i64 (tk 40)) ∧ tabV[40 * 4 + 2]? = some (.int .i64 (gv 40)) ∧ tabV[40 * 4 + 3]? = some (.int .i64 (ms 40)) := ⟨by kernel_rfl, by kernel_rfl, by kernel_rfl, by kernel_rfl⟩
theorem tab_at41 : tabV[41 * 4]? = some (.string (nm 41)) ∧ tabV[41 * 4 + 1]? = some (.int .i64 (tk 41)) ∧ tabV[41 * 4 + 2]? = some (.int .i64 (gv 41)) ∧ tabV[41 * 4 + 3]? = some (.int .i64 (ms 41)) := ⟨by kernel_rfl, by kernel_rfl, by kernel_rfl, by kernel_rfl⟩
theorem tab_at (k : Nat) (hk : k < 42) : tabV[k * 4]? = some (.string (nm k)) ∧ tabV[k * 4 + 1]? = some (.int .i64 (tk k)) ∧ tabV[k * 4 + 2]? = some (.int .i64 (gv k)) ∧ tabV[k * 4 + 3]? = some (.int .i64 (ms k)) := by
  match k, hk with
  | 0, _ => exact tab_at0
  | 1, _ => exact tab_at1
  | 2, _ => exact tab_at2
  | 3, _ => exact tab_at3
  | 4, _ => exact tab_at4
  | 5, _ => exact tab_at5
  | 6, _ => exact tab_at6
  | 7, _ => exact tab_at7
  | 8, _ => exact tab_at8
  | 9, _ => exact tab_at9
  | 10, _ => exact tab_at10
  | 11, _ => exact tab_at11
  | 12, _ => exact tab_at12
  | 13, _ => exact tab_at13
  | 14, _ => exact tab_at14
  | 15, _ => exact tab_at15
  | 16, _ => exact tab_at16
  | 17, _ => exact tab_at17
  | 18, _ => exact tab_at18
  | 19, _ => exact tab_at19
  | 20, _ => exact tab_at20
  | 21, _ => exact tab_at21
  | 22, _ => exact tab_at22
  | 23, _ => exact tab_at23
  | 24, _ => exact tab_at24
  | 25, _ => exact tab_at25
  | 26, _ => exact tab_at26
  | 27, _ => exact tab_at27
  | 28, _ => exact tab_at28
  | 29, _ => exact tab_at29
  | 30, _ => exact tab_at30
  | 31, _ => exact tab_at31
  | 32, _ => exact tab_at32
  | 33, _ => exact tab_at33
  | 34, _ => exact tab_at34
  | 35, _ => exact tab_at35
  | 36, _ => exact tab_at36
  | 37, _ => exact tab_at37
  | 38, _ => exact tab_at38
  | 39, _ => exact tab_at39
  | 40, _ => exact tab_at40
  | 41, _ => exact tab_at41
  | n + 42, h => exact absurd h (by omega)
theorem results_five {fn : Func} {a b c d e : Tmp} (h : fn.results = #[.tmp a, .tmp b, .tmp c, .tmp d, .tmp e]) (tmps : Array Value) (P : Program) (w : World) :
    (results fn tmps).run P w = .ok (.tuple #[tmps.getD a undef, tmps.getD b undef, tmps.getD c undef, tmps.getD d undef, tmps.getD e undef]) w := by
  simp [results, h]
def rowTup (k : Nat) : Value := .tuple #[.string (nm k), .int .i64 (tk k), .int .i64 (gv k), .int .i64 (ms k), .bool true]
theorem rrow_yes (k : Nat) (h1 : 1 ≤ k) (hk : k < 42) (W : World) :
    Calls Try.prog 15 #[.int .i64 k] W fun e W' => e = .returned (.tuple #[.string (nm k), .int .i64 (tk k), .int .i64 (gv k), .int .i64 (ms k), .bool true]) ∧ Grown W W' := by
  obtain ⟨t0, t1, t2, t3⟩ := tab_at k hk
  generalize nm k = n1 at *
  generalize tk k = n2 at *
  generalize gv k = n3 at *
  generalize ms k = n4 at *
  have G1 := (Grown.refl W).alloc tabV 60
  have F := table_any W
  generalize tabV = tb at *
  have x0 : (W.alloc (.cells tb 60)).cell? ⟨W.heap.size, k * 4, none⟩ = some (.string n1) := by rw [World.cell?_alloc_new]; exact t0
  have x1 : (W.alloc (.cells tb 60)).cell? ⟨W.heap.size, k * 4 + 1, none⟩ = some (.int .i64 n2) := by rw [World.cell?_alloc_new]; exact t1
  have x2 : (W.alloc (.cells tb 60)).cell? ⟨W.heap.size, k * 4 + 2, none⟩ = some (.int .i64 n3) := by rw [World.cell?_alloc_new]; exact t2
  have x3 : (W.alloc (.cells tb 60)).cell? ⟨W.heap.size, k * 4 + 3, none⟩ = some (.int .i64 n4) := by rw [World.cell?_alloc_new]; exact t3
  have hlt : W.heap.size < (W.alloc (.cells tb 60)).heap.size := sizes (Grown.refl _)
  generalize W.alloc (.cells tb 60) = W1 at *
  have hne : ¬ (W.heap.size = W1.heap.size) := Nat.ne_of_lt hlt
  have hne' : ¬ (W1.heap.size = W.heap.size) := fun h => hne h.symm
  clear t0 t1 t2 t3
  have c1 : ¬ ((k : Int) < 1) := by omega
  have c2 : ¬ ((42 : Int) ≤ k) := by omega
  go_enter Try.func15, Try.ntmps15
  go_wp2_with (go_at_call 21; refine F.mono ?_; rintro e w' ⟨rfl, rfl⟩)
  rw [set_row]
  have hsz : (w'.alloc (.cells #[.string n1, .int .i64 n2, .int .i64 n3, .int .i64 n4] 60)).heap[w'.heap.size]? = _ := heap_alloc_new _ _
  obtain ⟨⟨y0, y1, y2, y3⟩, -⟩ := row_cells hsz
  have G2 := G1.alloc #[.string n1, .int .i64 n2, .int .i64 n3, .int .i64 n4] 60
  clear hsz
  generalize w'.alloc (.cells #[.string n1, .int .i64 n2, .int .i64 n3, .int .i64 n4] 60) = W2 at *
  go_region
  go_wp2
  refine bodyPost_ret (results_five rfl _ _ _) rfl ?_
  exact ⟨rfl, G2.drew⟩
theorem rrow_no (k : Int) (h1 : ¬ (1 ≤ k ∧ k < 42)) (W : World) :
    Calls Try.prog 15 #[.int .i64 k] W fun e W' => e = .returned (.tuple #[.string ⟨#[]⟩, .int .i64 (-1), .int .i64 (-1), .int .i64 (-1), .bool false]) ∧ Grown W W' := by
  have G1 := (Grown.refl W).alloc tabV 60
  have F := table_any W
  generalize tabV = tb at *
  generalize W.alloc (.cells tb 60) = W1 at *
  have cd : k < 1 ∨ ¬ k < 1 ∧ (42 : Int) ≤ k := by omega
  rcases cd with c1 | ⟨c1, c2⟩
  · go_enter Try.func15, Try.ntmps15
    go_wp2_with (go_at_call 21; refine F.mono ?_; rintro e w' ⟨rfl, rfl⟩)
    refine bodyPost_ret (results_five rfl _ _ _) rfl ?_
    exact ⟨rfl, G1⟩
  · go_enter Try.func15, Try.ntmps15
    go_wp2_with (go_at_call 21; refine F.mono ?_; rintro e w' ⟨rfl, rfl⟩)
    refine bodyPost_ret (results_five rfl _ _ _) rfl ?_
    exact ⟨rfl, G1⟩
theorem rmay_yes (k : Nat) (a : Int) (h1 : 1 ≤ k) (hk : k < 42) (W : World) :
    Calls Try.prog 18 #[.agg #[.int .i64 k, .int .i64 a]] W fun e W' => e = .returned (.bool (mayB k a)) ∧ Grown W W' := by
  have F := rrow_yes k h1 hk
  unfold mayB
  generalize nm k = n1 at F
  generalize tk k = n2 at F
  generalize gv k = n3 at F
  generalize ms k = n4 at F ⊢
  by_cases c1 : 0 ≤ a
  · go_enter Try.func18, Try.ntmps18
    go_wp2_with (go_at_call 15; refine (F _).mono ?_; rintro e w' ⟨rfl, G1⟩; have GT := grown_trans ((Grown.refl _).alloc _ _) G1; obtain ⟨d0, d1, e0, e1⟩ := two_cells (grown_row G1 (heap_alloc_new _ _)))
    go_ret
    exact ⟨by simp [c1], GT⟩
  · go_enter Try.func18, Try.ntmps18
    go_wp2_with (go_at_call 15; refine (F _).mono ?_; rintro e w' ⟨rfl, G1⟩; have GT := grown_trans ((Grown.refl _).alloc _ _) G1; obtain ⟨d0, d1, e0, e1⟩ := two_cells (grown_row G1 (heap_alloc_new _ _)))
    go_ret
    exact ⟨by rw [decide_eq_false (by omega : ¬ 0 ≤ a)]; simp, GT⟩
theorem rmay_no (k a : Int) (h1 : ¬ (1 ≤ k ∧ k < 42)) (W : World) :
    Calls Try.prog 18 #[.agg #[.int .i64 k, .int .i64 a]] W fun e W' => e = .returned (.bool false) ∧ Grown W W' := by
  go_enter Try.func18, Try.ntmps18
  go_wp2_with (go_at_call 15; refine (rrow_no k h1 _).mono ?_; rintro e w' ⟨rfl, G1⟩; have GT := grown_trans ((Grown.refl _).alloc _ _) G1; obtain ⟨d0, d1, e0, e1⟩ := two_cells (grown_row G1 (heap_alloc_new _ _)))
  go_ret
  exact ⟨rfl, GT⟩
end Go.Proofs.Ythjbjbbbbdhcmaa
