/-
  What find, May, Name, Takes, Gives, Jumps, Ends and Falls of package inst give back: contracts for the seat's laws.
-/
import Derived.Test.YthjbjbbbbdhcmaaRows
import Derived.ProofKit
import Derived.OpenShut
import Derived.Laws.Rows
import Derived.Laws.ResultCell
namespace Go.Proofs.Ythjbjbbbbdhcmaa
open Go.ChangeShapes Go.WideShapes Go.ChangeAt Go.RowKit
set_option linter.unusedVariables false

def nm (k : Nat) : ByteArray := [⟨#[]⟩, ⟨#[112, 117, 115, 104]⟩, ⟨#[112, 111, 112]⟩, ⟨#[100, 117, 112]⟩, ⟨#[115, 119, 97, 112]⟩, ⟨#[97, 100, 100]⟩, ⟨#[115, 117, 98]⟩, ⟨#[109, 117, 108]⟩, ⟨#[100, 105, 118]⟩, ⟨#[109, 111, 100]⟩, ⟨#[97, 110, 100]⟩, ⟨#[111, 114]⟩, ⟨#[120, 111, 114]⟩, ⟨#[115, 104, 108]⟩, ⟨#[115, 104, 114]⟩, ⟨#[101, 113]⟩, ⟨#[108, 116]⟩, ⟨#[110, 111, 116]⟩, ⟨#[103, 101, 116]⟩, ⟨#[115, 101, 116]⟩, ⟨#[108, 111, 97, 100]⟩, ⟨#[115, 116, 111, 114, 101]⟩, ⟨#[106, 117, 109, 112]⟩, ⟨#[122, 101, 114, 111]⟩, ⟨#[111, 117, 116]⟩, ⟨#[97, 115, 115, 101, 114, 116]⟩, ⟨#[101, 120, 105, 116]⟩, ⟨#[111, 112, 101, 110]⟩, ⟨#[99, 108, 111, 115, 101]⟩, ⟨#[114, 101, 97, 100]⟩, ⟨#[119, 114, 105, 116, 101]⟩, ⟨#[115, 101, 101, 107]⟩, ⟨#[115, 105, 122, 101]⟩, ⟨#[117, 110, 108, 105, 110, 107]⟩, ⟨#[114, 101, 110, 97, 109, 101]⟩, ⟨#[109, 107, 100, 105, 114]⟩, ⟨#[114, 109, 100, 105, 114]⟩, ⟨#[108, 105, 115, 116]⟩, ⟨#[116, 114, 117, 110, 99]⟩, ⟨#[116, 119, 105, 110]⟩, ⟨#[97, 114, 103, 99]⟩, ⟨#[97, 114, 103]⟩].getD k ⟨#[]⟩
def tk (k : Nat) : Int := [0, 0, 1, 1, 2, 2, 2, 2, 2, 2, 2, 2, 2, 2, 2, 2, 2, 1, 0, 1, 1, 2, 0, 1, 1, 1, 1, 0, 1, 3, 3, 2, 1, 0, 0, 0, 0, 0, 2, 1, 0, 2].getD k 0
def gv (k : Nat) : Int := [0, 1, 0, 2, 2, 1, 1, 1, 1, 1, 1, 1, 1, 1, 1, 1, 1, 1, 1, 0, 1, 0, 0, 0, 0, 0, 0, 1, 1, 1, 1, 1, 1, 1, 1, 1, 1, 1, 1, 1, 1, 1].getD k 0
def ms (k : Nat) : Int := [0, 65535, 0, 0, 0, 0, 0, 0, 0, 0, 0, 0, 0, 0, 0, 0, 0, 0, 7, 7, 0, 0, 95, 95, 0, 0, 0, 7, 0, 0, 0, 0, 0, 7, 63, 7, 7, 7, 0, 0, 0, 0].getD k 0
def rowV (k : Nat) : Array Value := #[.string (nm k), .int .i64 (tk k), .int .i64 (gv k), .int .i64 (ms k)]
def tabV : Array Value := #[.string ⟨#[]⟩, .int .i64 0, .int .i64 0, .int .i64 0, .string ⟨#[112, 117, 115, 104]⟩, .int .i64 0, .int .i64 1, .int .i64 65535, .string ⟨#[112, 111, 112]⟩, .int .i64 1, .int .i64 0, .int .i64 0, .string ⟨#[100, 117, 112]⟩, .int .i64 1, .int .i64 2, .int .i64 0, .string ⟨#[115, 119, 97, 112]⟩, .int .i64 2, .int .i64 2, .int .i64 0, .string ⟨#[97, 100, 100]⟩, .int .i64 2, .int .i64 1, .int .i64 0, .string ⟨#[115, 117, 98]⟩, .int .i64 2, .int .i64 1, .int .i64 0, .string ⟨#[109, 117, 108]⟩, .int .i64 2, .int .i64 1, .int .i64 0, .string ⟨#[100, 105, 118]⟩, .int .i64 2, .int .i64 1, .int .i64 0, .string ⟨#[109, 111, 100]⟩, .int .i64 2, .int .i64 1, .int .i64 0, .string ⟨#[97, 110, 100]⟩, .int .i64 2, .int .i64 1, .int .i64 0, .string ⟨#[111, 114]⟩, .int .i64 2, .int .i64 1, .int .i64 0, .string ⟨#[120, 111, 114]⟩, .int .i64 2, .int .i64 1, .int .i64 0, .string ⟨#[115, 104, 108]⟩, .int .i64 2, .int .i64 1, .int .i64 0, .string ⟨#[115, 104, 114]⟩, .int .i64 2, .int .i64 1, .int .i64 0, .string ⟨#[101, 113]⟩, .int .i64 2, .int .i64 1, .int .i64 0, .string ⟨#[108, 116]⟩, .int .i64 2, .int .i64 1, .int .i64 0, .string ⟨#[110, 111, 116]⟩, .int .i64 1, .int .i64 1, .int .i64 0, .string ⟨#[103, 101, 116]⟩, .int .i64 0, .int .i64 1, .int .i64 7, .string ⟨#[115, 101, 116]⟩, .int .i64 1, .int .i64 0, .int .i64 7, .string ⟨#[108, 111, 97, 100]⟩, .int .i64 1, .int .i64 1, .int .i64 0, .string ⟨#[115, 116, 111, 114, 101]⟩, .int .i64 2, .int .i64 0, .int .i64 0, .string ⟨#[106, 117, 109, 112]⟩, .int .i64 0, .int .i64 0, .int .i64 95, .string ⟨#[122, 101, 114, 111]⟩, .int .i64 1, .int .i64 0, .int .i64 95, .string ⟨#[111, 117, 116]⟩, .int .i64 1, .int .i64 0, .int .i64 0, .string ⟨#[97, 115, 115, 101, 114, 116]⟩, .int .i64 1, .int .i64 0, .int .i64 0, .string ⟨#[101, 120, 105, 116]⟩, .int .i64 1, .int .i64 0, .int .i64 0, .string ⟨#[111, 112, 101, 110]⟩, .int .i64 0, .int .i64 1, .int .i64 7, .string ⟨#[99, 108, 111, 115, 101]⟩, .int .i64 1, .int .i64 1, .int .i64 0, .string ⟨#[114, 101, 97, 100]⟩, .int .i64 3, .int .i64 1, .int .i64 0, .string ⟨#[119, 114, 105, 116, 101]⟩, .int .i64 3, .int .i64 1, .int .i64 0, .string ⟨#[115, 101, 101, 107]⟩, .int .i64 2, .int .i64 1, .int .i64 0, .string ⟨#[115, 105, 122, 101]⟩, .int .i64 1, .int .i64 1, .int .i64 0, .string ⟨#[117, 110, 108, 105, 110, 107]⟩, .int .i64 0, .int .i64 1, .int .i64 7, .string ⟨#[114, 101, 110, 97, 109, 101]⟩, .int .i64 0, .int .i64 1, .int .i64 63, .string ⟨#[109, 107, 100, 105, 114]⟩, .int .i64 0, .int .i64 1, .int .i64 7, .string ⟨#[114, 109, 100, 105, 114]⟩, .int .i64 0, .int .i64 1, .int .i64 7, .string ⟨#[108, 105, 115, 116]⟩, .int .i64 0, .int .i64 1, .int .i64 7, .string ⟨#[116, 114, 117, 110, 99]⟩, .int .i64 2, .int .i64 1, .int .i64 0, .string ⟨#[116, 119, 105, 110]⟩, .int .i64 1, .int .i64 1, .int .i64 0, .string ⟨#[97, 114, 103, 99]⟩, .int .i64 0, .int .i64 1, .int .i64 0, .string ⟨#[97, 114, 103]⟩, .int .i64 2, .int .i64 1, .int .i64 0]
theorem build_row (s : ByteArray) (a b c : Int) (W : World) : (Instr.build 79 #[(0, .string s), (1, .int .i64 a), (2, .int .i64 b), (3, .int .i64 c)]).run Try.prog W = .ok (.agg #[.string s, .int .i64 a, .int .i64 b, .int .i64 c]) W := by kernel_rfl
theorem build_tab (W : World) : (Instr.build 85 #[(1, .agg #[.string ⟨#[112, 117, 115, 104]⟩, .int .i64 0, .int .i64 1, .int .i64 65535]), (2, .agg #[.string ⟨#[112, 111, 112]⟩, .int .i64 1, .int .i64 0, .int .i64 0]), (3, .agg #[.string ⟨#[100, 117, 112]⟩, .int .i64 1, .int .i64 2, .int .i64 0]), (4, .agg #[.string ⟨#[115, 119, 97, 112]⟩, .int .i64 2, .int .i64 2, .int .i64 0]), (5, .agg #[.string ⟨#[97, 100, 100]⟩, .int .i64 2, .int .i64 1, .int .i64 0]), (6, .agg #[.string ⟨#[115, 117, 98]⟩, .int .i64 2, .int .i64 1, .int .i64 0]), (7, .agg #[.string ⟨#[109, 117, 108]⟩, .int .i64 2, .int .i64 1, .int .i64 0]), (8, .agg #[.string ⟨#[100, 105, 118]⟩, .int .i64 2, .int .i64 1, .int .i64 0]), (9, .agg #[.string ⟨#[109, 111, 100]⟩, .int .i64 2, .int .i64 1, .int .i64 0]), (10, .agg #[.string ⟨#[97, 110, 100]⟩, .int .i64 2, .int .i64 1, .int .i64 0]), (11, .agg #[.string ⟨#[111, 114]⟩, .int .i64 2, .int .i64 1, .int .i64 0]), (12, .agg #[.string ⟨#[120, 111, 114]⟩, .int .i64 2, .int .i64 1, .int .i64 0]), (13, .agg #[.string ⟨#[115, 104, 108]⟩, .int .i64 2, .int .i64 1, .int .i64 0]), (14, .agg #[.string ⟨#[115, 104, 114]⟩, .int .i64 2, .int .i64 1, .int .i64 0]), (15, .agg #[.string ⟨#[101, 113]⟩, .int .i64 2, .int .i64 1, .int .i64 0]), (16, .agg #[.string ⟨#[108, 116]⟩, .int .i64 2, .int .i64 1, .int .i64 0]), (17, .agg #[.string ⟨#[110, 111, 116]⟩, .int .i64 1, .int .i64 1, .int .i64 0]), (18, .agg #[.string ⟨#[103, 101, 116]⟩, .int .i64 0, .int .i64 1, .int .i64 7]), (19, .agg #[.string ⟨#[115, 101, 116]⟩, .int .i64 1, .int .i64 0, .int .i64 7]), (20, .agg #[.string ⟨#[108, 111, 97, 100]⟩, .int .i64 1, .int .i64 1, .int .i64 0]), (21, .agg #[.string ⟨#[115, 116, 111, 114, 101]⟩, .int .i64 2, .int .i64 0, .int .i64 0]), (22, .agg #[.string ⟨#[106, 117, 109, 112]⟩, .int .i64 0, .int .i64 0, .int .i64 95]), (23, .agg #[.string ⟨#[122, 101, 114, 111]⟩, .int .i64 1, .int .i64 0, .int .i64 95]), (24, .agg #[.string ⟨#[111, 117, 116]⟩, .int .i64 1, .int .i64 0, .int .i64 0]), (25, .agg #[.string ⟨#[97, 115, 115, 101, 114, 116]⟩, .int .i64 1, .int .i64 0, .int .i64 0]), (26, .agg #[.string ⟨#[101, 120, 105, 116]⟩, .int .i64 1, .int .i64 0, .int .i64 0]), (27, .agg #[.string ⟨#[111, 112, 101, 110]⟩, .int .i64 0, .int .i64 1, .int .i64 7]), (28, .agg #[.string ⟨#[99, 108, 111, 115, 101]⟩, .int .i64 1, .int .i64 1, .int .i64 0]), (29, .agg #[.string ⟨#[114, 101, 97, 100]⟩, .int .i64 3, .int .i64 1, .int .i64 0]), (30, .agg #[.string ⟨#[119, 114, 105, 116, 101]⟩, .int .i64 3, .int .i64 1, .int .i64 0]), (31, .agg #[.string ⟨#[115, 101, 101, 107]⟩, .int .i64 2, .int .i64 1, .int .i64 0]), (32, .agg #[.string ⟨#[115, 105, 122, 101]⟩, .int .i64 1, .int .i64 1, .int .i64 0]), (33, .agg #[.string ⟨#[117, 110, 108, 105, 110, 107]⟩, .int .i64 0, .int .i64 1, .int .i64 7]), (34, .agg #[.string ⟨#[114, 101, 110, 97, 109, 101]⟩, .int .i64 0, .int .i64 1, .int .i64 63]), (35, .agg #[.string ⟨#[109, 107, 100, 105, 114]⟩, .int .i64 0, .int .i64 1, .int .i64 7]), (36, .agg #[.string ⟨#[114, 109, 100, 105, 114]⟩, .int .i64 0, .int .i64 1, .int .i64 7]), (37, .agg #[.string ⟨#[108, 105, 115, 116]⟩, .int .i64 0, .int .i64 1, .int .i64 7]), (38, .agg #[.string ⟨#[116, 114, 117, 110, 99]⟩, .int .i64 2, .int .i64 1, .int .i64 0]), (39, .agg #[.string ⟨#[116, 119, 105, 110]⟩, .int .i64 1, .int .i64 1, .int .i64 0]), (40, .agg #[.string ⟨#[97, 114, 103, 99]⟩, .int .i64 0, .int .i64 1, .int .i64 0]), (41, .agg #[.string ⟨#[97, 114, 103]⟩, .int .i64 2, .int .i64 1, .int .i64 0])]).run Try.prog W = .ok (.agg tabV) W := by kernel_rfl
theorem ix0 (W : World) : (Instr.index 85 (.agg tabV) (.int .i64 ((0 : Nat) : Int))).run Try.prog W = .ok (.agg #[.string (nm 0), .int .i64 (tk 0), .int .i64 (gv 0), .int .i64 (ms 0)]) W := by kernel_rfl
theorem ix1 (W : World) : (Instr.index 85 (.agg tabV) (.int .i64 ((1 : Nat) : Int))).run Try.prog W = .ok (.agg #[.string (nm 1), .int .i64 (tk 1), .int .i64 (gv 1), .int .i64 (ms 1)]) W := by kernel_rfl
theorem ix2 (W : World) : (Instr.index 85 (.agg tabV) (.int .i64 ((2 : Nat) : Int))).run Try.prog W = .ok (.agg #[.string (nm 2), .int .i64 (tk 2), .int .i64 (gv 2), .int .i64 (ms 2)]) W := by kernel_rfl
theorem ix3 (W : World) : (Instr.index 85 (.agg tabV) (.int .i64 ((3 : Nat) : Int))).run Try.prog W = .ok (.agg #[.string (nm 3), .int .i64 (tk 3), .int .i64 (gv 3), .int .i64 (ms 3)]) W := by kernel_rfl
theorem ix4 (W : World) : (Instr.index 85 (.agg tabV) (.int .i64 ((4 : Nat) : Int))).run Try.prog W = .ok (.agg #[.string (nm 4), .int .i64 (tk 4), .int .i64 (gv 4), .int .i64 (ms 4)]) W := by kernel_rfl
theorem ix5 (W : World) : (Instr.index 85 (.agg tabV) (.int .i64 ((5 : Nat) : Int))).run Try.prog W = .ok (.agg #[.string (nm 5), .int .i64 (tk 5), .int .i64 (gv 5), .int .i64 (ms 5)]) W := by kernel_rfl
theorem ix6 (W : World) : (Instr.index 85 (.agg tabV) (.int .i64 ((6 : Nat) : Int))).run Try.prog W = .ok (.agg #[.string (nm 6), .int .i64 (tk 6), .int .i64 (gv 6), .int .i64 (ms 6)]) W := by kernel_rfl
theorem ix7 (W : World) : (Instr.index 85 (.agg tabV) (.int .i64 ((7 : Nat) : Int))).run Try.prog W = .ok (.agg #[.string (nm 7), .int .i64 (tk 7), .int .i64 (gv 7), .int .i64 (ms 7)]) W := by kernel_rfl
theorem ix8 (W : World) : (Instr.index 85 (.agg tabV) (.int .i64 ((8 : Nat) : Int))).run Try.prog W = .ok (.agg #[.string (nm 8), .int .i64 (tk 8), .int .i64 (gv 8), .int .i64 (ms 8)]) W := by kernel_rfl
theorem ix9 (W : World) : (Instr.index 85 (.agg tabV) (.int .i64 ((9 : Nat) : Int))).run Try.prog W = .ok (.agg #[.string (nm 9), .int .i64 (tk 9), .int .i64 (gv 9), .int .i64 (ms 9)]) W := by kernel_rfl
theorem ix10 (W : World) : (Instr.index 85 (.agg tabV) (.int .i64 ((10 : Nat) : Int))).run Try.prog W = .ok (.agg #[.string (nm 10), .int .i64 (tk 10), .int .i64 (gv 10), .int .i64 (ms 10)]) W := by kernel_rfl
theorem ix11 (W : World) : (Instr.index 85 (.agg tabV) (.int .i64 ((11 : Nat) : Int))).run Try.prog W = .ok (.agg #[.string (nm 11), .int .i64 (tk 11), .int .i64 (gv 11), .int .i64 (ms 11)]) W := by kernel_rfl
theorem ix12 (W : World) : (Instr.index 85 (.agg tabV) (.int .i64 ((12 : Nat) : Int))).run Try.prog W = .ok (.agg #[.string (nm 12), .int .i64 (tk 12), .int .i64 (gv 12), .int .i64 (ms 12)]) W := by kernel_rfl
theorem ix13 (W : World) : (Instr.index 85 (.agg tabV) (.int .i64 ((13 : Nat) : Int))).run Try.prog W = .ok (.agg #[.string (nm 13), .int .i64 (tk 13), .int .i64 (gv 13), .int .i64 (ms 13)]) W := by kernel_rfl
theorem ix14 (W : World) : (Instr.index 85 (.agg tabV) (.int .i64 ((14 : Nat) : Int))).run Try.prog W = .ok (.agg #[.string (nm 14), .int .i64 (tk 14), .int .i64 (gv 14), .int .i64 (ms 14)]) W := by kernel_rfl
theorem ix15 (W : World) : (Instr.index 85 (.agg tabV) (.int .i64 ((15 : Nat) : Int))).run Try.prog W = .ok (.agg #[.string (nm 15), .int .i64 (tk 15), .int .i64 (gv 15), .int .i64 (ms 15)]) W := by kernel_rfl
theorem ix16 (W : World) : (Instr.index 85 (.agg tabV) (.int .i64 ((16 : Nat) : Int))).run Try.prog W = .ok (.agg #[.string (nm 16), .int .i64 (tk 16), .int .i64 (gv 16), .int .i64 (ms 16)]) W := by kernel_rfl
theorem ix17 (W : World) : (Instr.index 85 (.agg tabV) (.int .i64 ((17 : Nat) : Int))).run Try.prog W = .ok (.agg #[.string (nm 17), .int .i64 (tk 17), .int .i64 (gv 17), .int .i64 (ms 17)]) W := by kernel_rfl
theorem ix18 (W : World) : (Instr.index 85 (.agg tabV) (.int .i64 ((18 : Nat) : Int))).run Try.prog W = .ok (.agg #[.string (nm 18), .int .i64 (tk 18), .int .i64 (gv 18), .int .i64 (ms 18)]) W := by kernel_rfl
theorem ix19 (W : World) : (Instr.index 85 (.agg tabV) (.int .i64 ((19 : Nat) : Int))).run Try.prog W = .ok (.agg #[.string (nm 19), .int .i64 (tk 19), .int .i64 (gv 19), .int .i64 (ms 19)]) W := by kernel_rfl
theorem ix20 (W : World) : (Instr.index 85 (.agg tabV) (.int .i64 ((20 : Nat) : Int))).run Try.prog W = .ok (.agg #[.string (nm 20), .int .i64 (tk 20), .int .i64 (gv 20), .int .i64 (ms 20)]) W := by kernel_rfl
theorem ix21 (W : World) : (Instr.index 85 (.agg tabV) (.int .i64 ((21 : Nat) : Int))).run Try.prog W = .ok (.agg #[.string (nm 21), .int .i64 (tk 21), .int .i64 (gv 21), .int .i64 (ms 21)]) W := by kernel_rfl
theorem ix22 (W : World) : (Instr.index 85 (.agg tabV) (.int .i64 ((22 : Nat) : Int))).run Try.prog W = .ok (.agg #[.string (nm 22), .int .i64 (tk 22), .int .i64 (gv 22), .int .i64 (ms 22)]) W := by kernel_rfl
theorem ix23 (W : World) : (Instr.index 85 (.agg tabV) (.int .i64 ((23 : Nat) : Int))).run Try.prog W = .ok (.agg #[.string (nm 23), .int .i64 (tk 23), .int .i64 (gv 23), .int .i64 (ms 23)]) W := by kernel_rfl
theorem ix24 (W : World) : (Instr.index 85 (.agg tabV) (.int .i64 ((24 : Nat) : Int))).run Try.prog W = .ok (.agg #[.string (nm 24), .int .i64 (tk 24), .int .i64 (gv 24), .int .i64 (ms 24)]) W := by kernel_rfl
theorem ix25 (W : World) : (Instr.index 85 (.agg tabV) (.int .i64 ((25 : Nat) : Int))).run Try.prog W = .ok (.agg #[.string (nm 25), .int .i64 (tk 25), .int .i64 (gv 25), .int .i64 (ms 25)]) W := by kernel_rfl
theorem ix26 (W : World) : (Instr.index 85 (.agg tabV) (.int .i64 ((26 : Nat) : Int))).run Try.prog W = .ok (.agg #[.string (nm 26), .int .i64 (tk 26), .int .i64 (gv 26), .int .i64 (ms 26)]) W := by kernel_rfl
theorem ix27 (W : World) : (Instr.index 85 (.agg tabV) (.int .i64 ((27 : Nat) : Int))).run Try.prog W = .ok (.agg #[.string (nm 27), .int .i64 (tk 27), .int .i64 (gv 27), .int .i64 (ms 27)]) W := by kernel_rfl
theorem ix28 (W : World) : (Instr.index 85 (.agg tabV) (.int .i64 ((28 : Nat) : Int))).run Try.prog W = .ok (.agg #[.string (nm 28), .int .i64 (tk 28), .int .i64 (gv 28), .int .i64 (ms 28)]) W := by kernel_rfl
theorem ix29 (W : World) : (Instr.index 85 (.agg tabV) (.int .i64 ((29 : Nat) : Int))).run Try.prog W = .ok (.agg #[.string (nm 29), .int .i64 (tk 29), .int .i64 (gv 29), .int .i64 (ms 29)]) W := by kernel_rfl
theorem ix30 (W : World) : (Instr.index 85 (.agg tabV) (.int .i64 ((30 : Nat) : Int))).run Try.prog W = .ok (.agg #[.string (nm 30), .int .i64 (tk 30), .int .i64 (gv 30), .int .i64 (ms 30)]) W := by kernel_rfl
theorem ix31 (W : World) : (Instr.index 85 (.agg tabV) (.int .i64 ((31 : Nat) : Int))).run Try.prog W = .ok (.agg #[.string (nm 31), .int .i64 (tk 31), .int .i64 (gv 31), .int .i64 (ms 31)]) W := by kernel_rfl
theorem ix32 (W : World) : (Instr.index 85 (.agg tabV) (.int .i64 ((32 : Nat) : Int))).run Try.prog W = .ok (.agg #[.string (nm 32), .int .i64 (tk 32), .int .i64 (gv 32), .int .i64 (ms 32)]) W := by kernel_rfl
theorem ix33 (W : World) : (Instr.index 85 (.agg tabV) (.int .i64 ((33 : Nat) : Int))).run Try.prog W = .ok (.agg #[.string (nm 33), .int .i64 (tk 33), .int .i64 (gv 33), .int .i64 (ms 33)]) W := by kernel_rfl
theorem ix34 (W : World) : (Instr.index 85 (.agg tabV) (.int .i64 ((34 : Nat) : Int))).run Try.prog W = .ok (.agg #[.string (nm 34), .int .i64 (tk 34), .int .i64 (gv 34), .int .i64 (ms 34)]) W := by kernel_rfl
theorem ix35 (W : World) : (Instr.index 85 (.agg tabV) (.int .i64 ((35 : Nat) : Int))).run Try.prog W = .ok (.agg #[.string (nm 35), .int .i64 (tk 35), .int .i64 (gv 35), .int .i64 (ms 35)]) W := by kernel_rfl
theorem ix36 (W : World) : (Instr.index 85 (.agg tabV) (.int .i64 ((36 : Nat) : Int))).run Try.prog W = .ok (.agg #[.string (nm 36), .int .i64 (tk 36), .int .i64 (gv 36), .int .i64 (ms 36)]) W := by kernel_rfl
theorem ix37 (W : World) : (Instr.index 85 (.agg tabV) (.int .i64 ((37 : Nat) : Int))).run Try.prog W = .ok (.agg #[.string (nm 37), .int .i64 (tk 37), .int .i64 (gv 37), .int .i64 (ms 37)]) W := by kernel_rfl
theorem ix38 (W : World) : (Instr.index 85 (.agg tabV) (.int .i64 ((38 : Nat) : Int))).run Try.prog W = .ok (.agg #[.string (nm 38), .int .i64 (tk 38), .int .i64 (gv 38), .int .i64 (ms 38)]) W := by kernel_rfl
theorem ix39 (W : World) : (Instr.index 85 (.agg tabV) (.int .i64 ((39 : Nat) : Int))).run Try.prog W = .ok (.agg #[.string (nm 39), .int .i64 (tk 39), .int .i64 (gv 39), .int .i64 (ms 39)]) W := by kernel_rfl
theorem ix40 (W : World) : (Instr.index 85 (.agg tabV) (.int .i64 ((40 : Nat) : Int))).run Try.prog W = .ok (.agg #[.string (nm 40), .int .i64 (tk 40), .int .i64 (gv 40), .int .i64 (ms 40)]) W := by kernel_rfl
theorem ix41 (W : World) : (Instr.index 85 (.agg tabV) (.int .i64 ((41 : Nat) : Int))).run Try.prog W = .ok (.agg #[.string (nm 41), .int .i64 (tk 41), .int .i64 (gv 41), .int .i64 (ms 41)]) W := by kernel_rfl
theorem index_tab (k : Nat) (hk : k < 42) (W : World) : (Instr.index 85 (.agg tabV) (.int .i64 k)).run Try.prog W = .ok (.agg #[.string (nm k), .int .i64 (tk k), .int .i64 (gv k), .int .i64 (ms k)]) W := by
  match k, hk with
  | 0, _ => exact ix0 W
  | 1, _ => exact ix1 W
  | 2, _ => exact ix2 W
  | 3, _ => exact ix3 W
  | 4, _ => exact ix4 W
  | 5, _ => exact ix5 W
  | 6, _ => exact ix6 W
  | 7, _ => exact ix7 W
  | 8, _ => exact ix8 W
  | 9, _ => exact ix9 W
  | 10, _ => exact ix10 W
  | 11, _ => exact ix11 W
  | 12, _ => exact ix12 W
  | 13, _ => exact ix13 W
  | 14, _ => exact ix14 W
  | 15, _ => exact ix15 W
  | 16, _ => exact ix16 W
  | 17, _ => exact ix17 W
  | 18, _ => exact ix18 W
  | 19, _ => exact ix19 W
  | 20, _ => exact ix20 W
  | 21, _ => exact ix21 W
  | 22, _ => exact ix22 W
  | 23, _ => exact ix23 W
  | 24, _ => exact ix24 W
  | 25, _ => exact ix25 W
  | 26, _ => exact ix26 W
  | 27, _ => exact ix27 W
  | 28, _ => exact ix28 W
  | 29, _ => exact ix29 W
  | 30, _ => exact ix30 W
  | 31, _ => exact ix31 W
  | 32, _ => exact ix32 W
  | 33, _ => exact ix33 W
  | 34, _ => exact ix34 W
  | 35, _ => exact ix35 W
  | 36, _ => exact ix36 W
  | 37, _ => exact ix37 W
  | 38, _ => exact ix38 W
  | 39, _ => exact ix39 W
  | 40, _ => exact ix40 W
  | 41, _ => exact ix41 W
  | n + 42, h => exact absurd h (by omega)
theorem set_new (w : World) (c : Array Value) (t : TypeId) (i : Nat) (v : Value) : (w.alloc (.cells c t)).setCell ⟨w.heap.size, i, none⟩ v = w.alloc (.cells (c.setIfInBounds i v) t) := by
  simp only [World.setCell, World.alloc]
  congr 1
  apply Array.ext_getElem?
  intro j
  rw [Array.getElem?_modify]
  by_cases h : w.heap.size = j
  · subst h
    simp
  · have h' : ¬ j = w.heap.size := fun e => h e.symm
    simp [h, h', Array.getElem?_push]
theorem set_row (w : World) (a0 b0 c0 d0 a b c d : Value) (t : TypeId) : ((((w.alloc (.cells #[a0, b0, c0, d0] t)).setCell ⟨w.heap.size, 0, none⟩ a).setCell ⟨w.heap.size, 1, none⟩ b).setCell ⟨w.heap.size, 2, none⟩ c).setCell ⟨w.heap.size, 3, none⟩ d = w.alloc (.cells #[a, b, c, d] t) := by
  rw [set_new, set_new, set_new, set_new]
  rfl
theorem from_table (k : Nat) (hk : k < 42) (W : World) :
    Calls Try.prog 45 #[.int .i64 k] W fun e W' => e = .returned (.agg #[.string (nm k), .int .i64 (tk k), .int .i64 (gv k), .int .i64 (ms k)]) ∧ Grown W W' := by
  have h1 := build_row
  have h2 := build_tab
  have h3 := index_tab k hk
  go_enter Try.func45, Try.ntmps45
  go_wp2
  rw [set_row]
  refine bodyPost_ret (results_cell_row rfl _ _ W.heap.size _ _ _ _ rfl (heap_alloc_new _ _) Try.underlying79 rfl (by kernel_rfl)) rfl ?_
  exact ⟨rfl, (Grown.refl _).alloc _ _⟩
theorem grown_row {W w' : World} (G : Grown W w') {b : Nat} {c : Array Value} {t : TypeId} {fr : Nat × Nat} (h : W.heap[b]? = some (.cells c t fr)) : w'.heap[b]? = some (.cells c t fr) := by
  have hb : b < W.heap.size := (Array.getElem?_eq_some_iff.mp h).1
  have k := G.1.2.2 b hb
  rw [h] at k
  split at k
  case h_1 x c1 t1 f1 c' t' f' h1 h2 =>
    simp only [Option.some.injEq, Obj.cells.injEq] at h1
    obtain ⟨rfl, rfl, rfl⟩ := h1
    obtain ⟨rfl, rfl, e3, e4⟩ := k
    rw [h2]
    congr 2
    exact Array.ext_getElem? fun j => e4 j (fun h => h)
  case h_2 h1 _ => simp at h1
  case h_3 o o' h1 h2 => exact k.symm ▸ rfl
theorem grown_trans {a b c : World} (h1 : Grown a b) (h2 : Grown b c) : Grown a c := by
  refine ⟨World.keptBut_trans h1.1 ?_, fun a => (h2.2.1 a).trans (h1.2.1 a), Nat.le_trans h1.2.2 h2.2.2⟩
  exact h2.1
theorem results_row2 {fn : Func} {p q : Tmp} {ty : TypeId} (h : fn.results = #[.cell p ty, .tmp q]) (tmps : Array Value) (w : World) (g : Nat) (t : TypeId) (cs : Array Value) (fr : Nat × Nat) (fs : Array Field)
    (hp : tmps.getD p undef = .pointer (some ⟨g, 0, none⟩)) (hg : w.heap[g]? = some (.cells cs t fr))
    (hu : Try.prog.underlying ty = some (.struct fs)) (hi : (Try.prog.info? ty).map (·.size) = some cs.size) :
    (results fn tmps).run Try.prog w = .ok (.tuple #[.agg cs, tmps.getD q undef]) w := by
  have hp' : tmps[p]?.getD undef = .pointer (some ⟨g, 0, none⟩) := by simpa using hp
  rw [results_cell_tmp h]
  simp [hp', asAddr, run_loadVar_row w g t ty cs fr _ hg hu rfl hi]
theorem set_any (w : World) (g i : Nat) (c : Array Value) (t : TypeId) (fr : Nat × Nat) (v : Value) (h : w.heap[g]? = some (.cells c t fr)) : (w.setCell ⟨g, i, none⟩ v).heap[g]? = some (.cells (c.setIfInBounds i v) t fr) := by
  simp [World.setCell, Array.getElem?_modify, h]
theorem set_four (w : World) (g : Nat) (a0 b0 c0 d0 a b c d : Value) (t : TypeId) (fr : Nat × Nat) (h : w.heap[g]? = some (.cells #[a0, b0, c0, d0] t fr)) : (((((w.setCell ⟨g, 0, none⟩ a).setCell ⟨g, 1, none⟩ b).setCell ⟨g, 2, none⟩ c).setCell ⟨g, 3, none⟩ d)).heap[g]? = some (.cells #[a, b, c, d] t fr) :=
  set_any _ g 3 _ t fr d (set_any _ g 2 _ t fr c (set_any _ g 1 _ t fr b (set_any w g 0 _ t fr a h)))
theorem row_cells {w : World} {g : Nat} {a b c d : Value} {t : TypeId} (h : w.heap[g]? = some (.cells #[a, b, c, d] t (0, 0))) :
    (w.cell? ⟨g, 0, none⟩ = some a ∧ w.cell? ⟨g, 1, none⟩ = some b ∧ w.cell? ⟨g, 2, none⟩ = some c ∧ w.cell? ⟨g, 3, none⟩ = some d)
    ∧ w.frozen? ⟨g, 0, none⟩ = false ∧ w.frozen? ⟨g, 1, none⟩ = false ∧ w.frozen? ⟨g, 2, none⟩ = false ∧ w.frozen? ⟨g, 3, none⟩ = false := by
  simp [World.cell?, World.frozen?, h]
theorem build_nought (W : World) : (Instr.build 79 #[]).run Try.prog W = .ok (.agg #[.string ⟨#[]⟩, .int .i64 0, .int .i64 0, .int .i64 0]) W := by kernel_rfl
theorem find_yes (k : Nat) (h1 : 1 ≤ k) (hk : k < 42) (W : World) :
    Calls Try.prog 42 #[.int .i64 k] W fun e W' => e = .returned (.tuple #[.agg #[.string (nm k), .int .i64 (tk k), .int .i64 (gv k), .int .i64 (ms k)], .bool true]) ∧ Grown W W' := by
  have c1 : ¬ ((k : Int) < 1) := by omega
  have c2 : ¬ ((41 : Int) < k) := by omega
  go_enter Try.func42, Try.ntmps42
  go_wp2_with (go_at_call 45; refine (from_table k hk _).mono ?_; rintro e w' ⟨rfl, G1⟩; have HR := grown_row G1 (heap_alloc_new _ _); obtain ⟨⟨d0, d1, d2, d3⟩, e0, e1, e2, e3⟩ := row_cells HR; have GT := grown_trans ((Grown.refl _).alloc _ _) G1; have HS := set_four w' _ _ _ _ _ (.string (nm k)) (.int .i64 (tk k)) (.int .i64 (gv k)) (.int .i64 (ms k)) _ _ HR)
  refine bodyPost_ret (results_row2 rfl _ _ W.heap.size _ _ _ _ rfl HS Try.underlying79 (by kernel_rfl)) rfl ?_
  exact ⟨rfl, (((GT.setCell (Nat.le_refl _) _).setCell (Nat.le_refl _) _).setCell (Nat.le_refl _) _).setCell (Nat.le_refl _) _⟩
theorem find_no (k : Int) (h1 : ¬ (1 ≤ k ∧ k < 42)) (W : World) :
    Calls Try.prog 42 #[.int .i64 k] W fun e W' => e = .returned (.tuple #[.agg #[.string ⟨#[]⟩, .int .i64 0, .int .i64 0, .int .i64 0], .bool false]) ∧ Grown W W' := by
  have h1 := build_nought
  by_cases c1 : k < 1
  · go_enter Try.func42, Try.ntmps42
    go_wp2
    rw [set_row]
    refine bodyPost_ret (results_row2 rfl _ _ W.heap.size _ _ _ _ rfl (heap_alloc_new _ _) Try.underlying79 (by kernel_rfl)) rfl ?_
    exact ⟨rfl, (Grown.refl _).alloc _ _⟩
  · have c2 : (41 : Int) < k := by omega
    go_enter Try.func42, Try.ntmps42
    go_wp2
    rw [set_row]
    refine bodyPost_ret (results_row2 rfl _ _ W.heap.size _ _ _ _ rfl (heap_alloc_new _ _) Try.underlying79 (by kernel_rfl)) rfl ?_
    exact ⟨rfl, (Grown.refl _).alloc _ _⟩
end Go.Proofs.Ythjbjbbbbdhcmaa
