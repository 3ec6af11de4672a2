/-
  The laws of fails over its contract: awake; entries by hand.
-/
import Derived.Test.YtcndclohbpediaaFailA
namespace Go.Proofs.Ytcndclohbpediaa
open Go.ChangeShapes Go.WideShapes Go.ChangeAt Go.RowKit Go.Joins
set_option linter.unusedVariables false
set_option linter.unusedSimpArgs false

theorem mk6 (w : World) : (Instr.makeSlice 22 (.int .i64 6) (.int .i64 6)).run Try.prog w = .ok (.slice (some ⟨w.heap.size, 0, none⟩) 6 6) (w.alloc (.cells #[.bool false, .bool false, .bool false, .bool false, .bool false, .bool false] 4)) := by kernel_rfl
theorem mk7 (w : World) : (Instr.makeSlice 22 (.int .i64 7) (.int .i64 7)).run Try.prog w = .ok (.slice (some ⟨w.heap.size, 0, none⟩) 7 7) (w.alloc (.cells #[.bool false, .bool false, .bool false, .bool false, .bool false, .bool false, .bool false] 4)) := by kernel_rfl
theorem wf1 : (Lit.int .i64 1).wf = true := rfl
section
variable {T : FlP} (C : FailC T) {W w : World}
include C
theorem may_row (w : World) {l : List Bool} {r : Bool} (c m : Int) (hl : l.length ≤ 1000) (hc : (Lit.int .i64 c).wf = true) (hm : (Lit.int .i64 m).wf = true) (hr : mayF l c m = r) : Calls Try.prog 10 #[.slice (some ⟨w.heap.size, 0, none⟩) l.length l.length, .int .i64 c, .int .i64 m] (w.alloc (.cells (l.map Value.bool).toArray 4)) fun e w' => e = .returned (.bool r) ∧ Gw (w.alloc (.cells (l.map Value.bool).toArray 4)) w' := by
  have := C.may (W := w.alloc (.cells (l.map Value.bool).toArray 4)) c m (BlA.row (Has.new w _ _) (by omega)) hl hc hm
  rw [hr] at this
  exact this
set_option maxRecDepth 100000 in
set_option maxHeartbeats 2000000 in
theorem awake_l (W : World) : Calls Try.prog 6 #[] W fun e W' => e = .returned (.bool true) ∧ Gw W W' := by
  have hn : ∀ b w, (Op.unary .not (.bool b)).run Try.prog w = .ok (.bool (!b)) w := fun _ _ => rfl
  have N0 : Calls Try.prog 7 #[.slice (some ⟨W.heap.size, 0, none⟩) 1 1] (W.alloc (.cells #[.bool true] 4)) fun e w' => ∃ a, e = .returned (.pointer (some a)) ∧ Ml T W w' (.pointer (some a)) [true] 0 := l_new C (Gw.alloc W _) (BlA.row (l := [true]) (Has.new W _ _) (by decide)) (by decide)
  have P1 : ∀ w : World, Calls Try.prog 10 #[.slice (some ⟨w.heap.size, 0, none⟩) 2 2, .int .i64 2, .int .i64 1] (w.alloc (.cells #[.bool true, .bool false] 4)) fun e w' => e = .returned (.bool true) ∧ Gw (w.alloc (.cells #[.bool true, .bool false] 4)) w' := fun w => may_row C w (l := [true, false]) 2 1 (by decide) rfl rfl (by decide)
  have P2 : ∀ w : World, Calls Try.prog 10 #[.slice (some ⟨w.heap.size, 0, none⟩) 2 2, .int .i64 2, .int .i64 1] (w.alloc (.cells #[.bool true, .bool true] 4)) fun e w' => e = .returned (.bool false) ∧ Gw (w.alloc (.cells #[.bool true, .bool true] 4)) w' := fun w => may_row C w (l := [true, true]) 2 1 (by decide) rfl rfl (by decide)
  go_enter Try.func6, Try.ntmps6
  go_wp2_with (first
    | (go_at_call 7; (with_reducible refine N0.mono ?_); rintro e w1 ⟨a, rfl, M1⟩; have N1 : Calls Try.prog 8 #[.pointer (some a)] w1 fun e w' => e = .returned (.bool true) ∧ Ml T W w' (.pointer (some a)) [true] 1 := l_next C M1; clear N0 M1)
    | (go_at_call 8; (with_reducible refine N1.mono ?_); rintro e w2 ⟨rfl, M2⟩; have N2 : Calls Try.prog 8 #[.pointer (some a)] w2 fun e w' => e = .returned (.bool false) ∧ Ml T W w' (.pointer (some a)) [true] 1 := l_next C M2; clear N1 M2)
    | (go_at_call 8; (with_reducible refine N2.mono ?_); rintro e w3 ⟨rfl, M3⟩; have U3 : Calls Try.prog 9 #[.pointer (some a)] w3 fun e w' => e = .returned (.int .i64 1) ∧ Ml T W w' (.pointer (some a)) [true] 1 := l_used C M3; clear N2 M3)
    | (go_at_call 9; (with_reducible refine U3.mono ?_); rintro e w4 ⟨rfl, M4⟩; replace M4 := Lib.hid M4.gw; have Q1 := P1 w4; clear U3 P1)
    | (go_at_call 10; (with_reducible refine Q1.mono ?_); rintro e w5 ⟨rfl, G5⟩; replace G5 := Lib.hid ((Gw.alloc _ _).trans G5); have Q2 := P2 w5; clear Q1 P2)
    | (go_at_call 10; (with_reducible refine Q2.mono ?_); rintro e w6 ⟨rfl, G6⟩; replace G6 := Lib.hid ((Gw.alloc _ _).trans G6); clear Q2))
  go_ret
  exact ⟨rfl, (M4.out.trans G5.out).trans G6.out⟩
theorem may_nil (w : World) {r : Bool} (c m : Int) (hc : (Lit.int .i64 c).wf = true) (hm : (Lit.int .i64 m).wf = true) (hr : mayF [] c m = r) : Calls Try.prog 10 #[.slice none 0 0, .int .i64 c, .int .i64 m] w fun e w' => e = .returned (.bool r) ∧ Gw w w' := by
  have := C.may (W := w) c m (BlA.nil w) (by decide) hc hm
  rw [hr] at this
  exact this
set_option maxRecDepth 100000 in
set_option maxHeartbeats 4000000 in
theorem lknown_walk (W : World) : Calls Try.prog 4 #[] W fun e W' => e = .returned (.bool true) ∧ Gw W W' := by
  have hn : ∀ b w, (Op.unary .not (.bool b)).run Try.prog w = .ok (.bool (!b)) w := fun _ _ => rfl
  have AW := awake_l C W
  have K6 := mk6
  have K7 := mk7
  have Q1 : ∀ w : World, Calls Try.prog 10 #[.slice none 0 0, .int .i64 0, .int .i64 0] w fun e w' => e = .returned (.bool true) ∧ Gw w w' := fun w => may_nil C w 0 0 rfl rfl (by decide)
  have P2 : ∀ w : World, Calls Try.prog 10 #[.slice none 0 0, .int .i64 1, .int .i64 1] w fun e w' => e = .returned (.bool false) ∧ Gw w w' := fun w => may_nil C w 1 1 rfl rfl (by decide)
  have P3 : ∀ w : World, Calls Try.prog 10 #[.slice (some ⟨w.heap.size, 0, none⟩) 7 7, .int .i64 7, .int .i64 7] (w.alloc (.cells #[.bool false, .bool false, .bool false, .bool false, .bool false, .bool false, .bool false] 4)) fun e w' => e = .returned (.bool false) ∧ Gw (w.alloc (.cells #[.bool false, .bool false, .bool false, .bool false, .bool false, .bool false, .bool false] 4)) w' := fun w => may_row C w (l := [false, false, false, false, false, false, false]) 7 7 (by decide) rfl rfl (by decide)
  have P4 : ∀ w : World, Calls Try.prog 10 #[.slice (some ⟨w.heap.size, 0, none⟩) 6 6, .int .i64 6, .int .i64 0] (w.alloc (.cells #[.bool false, .bool false, .bool false, .bool false, .bool false, .bool false] 4)) fun e w' => e = .returned (.bool true) ∧ Gw (w.alloc (.cells #[.bool false, .bool false, .bool false, .bool false, .bool false, .bool false] 4)) w' := fun w => may_row C w (l := [false, false, false, false, false, false]) 6 0 (by decide) rfl rfl (by decide)
  have P5 : ∀ w : World, Calls Try.prog 10 #[.slice (some ⟨w.heap.size, 0, none⟩) 1 1, .int .i64 1, .int .i64 0] (w.alloc (.cells #[.bool true] 4)) fun e w' => e = .returned (.bool false) ∧ Gw (w.alloc (.cells #[.bool true] 4)) w' := fun w => may_row C w (l := [true]) 1 0 (by decide) rfl rfl (by decide)
  have P6 : ∀ w : World, Calls Try.prog 10 #[.slice (some ⟨w.heap.size, 0, none⟩) 1 1, .int .i64 1, .int .i64 (-1)] (w.alloc (.cells #[.bool false] 4)) fun e w' => e = .returned (.bool false) ∧ Gw (w.alloc (.cells #[.bool false] 4)) w' := fun w => may_row C w (l := [false]) 1 (-1) (by decide) rfl rfl (by decide)
  have P7 : ∀ w : World, Calls Try.prog 10 #[.slice none 0 0, .int .i64 (-1), .int .i64 0] w fun e w' => e = .returned (.bool false) ∧ Gw w w' := fun w => may_nil C w (-1) 0 rfl rfl (by decide)
  go_enter Try.func4, Try.ntmps4
  go_wp2_with (first
    | (go_at_call 6; (with_reducible refine AW.mono ?_); rintro e w0 ⟨rfl, G0⟩; have N0 : Calls Try.prog 7 #[.slice none 0 0] w0 fun e w' => ∃ a, e = .returned (.pointer (some a)) ∧ Ml T W w' (.pointer (some a)) [] 0 := l_new C G0 (BlA.nil w0) (by decide); clear AW)
    | (go_at_call 7; (with_reducible refine N0.mono ?_); rintro e w1 ⟨a, rfl, M1⟩; have N1 : Calls Try.prog 8 #[.pointer (some a)] w1 fun e w' => e = .returned (.bool false) ∧ Ml T W w' (.pointer (some a)) [] 0 := l_next C M1; clear N0 M1)
    | (go_at_call 8; (with_reducible refine N1.mono ?_); rintro e w2 ⟨rfl, M2⟩; have U3 : Calls Try.prog 9 #[.pointer (some a)] w2 fun e w' => e = .returned (.int .i64 0) ∧ Ml T W w' (.pointer (some a)) [] 0 := l_used C M2; clear N1 M2)
    | (go_at_call 9; (with_reducible refine U3.mono ?_); rintro e v0 ⟨rfl, M4⟩; have H0 := Lib.hid M4.gw; have R1 := Q1 v0; clear U3 Q1 M4)
    | (go_at_call 10; (with_reducible refine R1.mono ?_); rintro e v1 ⟨rfl, G1⟩; have H1 := Lib.hid (H0.out.trans (G1)); clear H0 G1; have R2 := P2 v1; clear R1 P2)
    | (go_at_call 10; (with_reducible refine R2.mono ?_); rintro e v2 ⟨rfl, G2⟩; have H2 := Lib.hid (H1.out.trans (G2)); clear H1 G2; have R3 := P3 v2; clear R2 P3)
    | (go_at_call 10; (with_reducible refine R3.mono ?_); rintro e v3 ⟨rfl, G3⟩; have H3 := Lib.hid (H2.out.trans ((Gw.alloc _ _).trans G3)); clear H2 G3; have R4 := P4 v3; clear R3 P4)
    | (go_at_call 10; (with_reducible refine R4.mono ?_); rintro e v4 ⟨rfl, G4⟩; have H4 := Lib.hid (H3.out.trans ((Gw.alloc _ _).trans G4)); clear H3 G4; have R5 := P5 v4; clear R4 P5)
    | (go_at_call 10; (with_reducible refine R5.mono ?_); rintro e v5 ⟨rfl, G5⟩; have H5 := Lib.hid (H4.out.trans ((Gw.alloc _ _).trans G5)); clear H4 G5; have R6 := P6 v5; clear R5 P6)
    | (go_at_call 10; (with_reducible refine R6.mono ?_); rintro e v6 ⟨rfl, G6⟩; have H6 := Lib.hid (H5.out.trans ((Gw.alloc _ _).trans G6)); clear H5 G6; have R7 := P7 v6; clear R6 P7)
    | (go_at_call 10; (with_reducible refine R7.mono ?_); rintro e v7 ⟨rfl, G7⟩; have H7 := Lib.hid (H6.out.trans (G7)); clear H6 G7; clear R7))
  go_ret
  exact ⟨rfl, H7.out⟩
end
end Go.Proofs.Ytcndclohbpediaa
