/-
  whole of package fix where there is room: what it is handed is called once.
-/
import Derived.Test.YtgbmiphaabeodaaDoorTermU
import Derived.Test.YtgbmiphaabeodaaDoorFixG
namespace Go.Proofs.YtgbmiphaabeodaaDoor
open Go.ChangeShapes Go.WideShapes Go.ChangeAt Go.RowKit
set_option linter.unusedVariables false
attribute [local go_sem ↓] Go.wp_at_zero Go.wp_at_succ

set_option maxHeartbeats 800000 in
set_option maxRecDepth 100000 in
theorem whole_partly (w : World) (ab p q : Nat) (ns : List Nd) (foot : Nat → Prop) (most : Int) (P : Int → World → Prop) (h : Ar w ab ns foot) (hl : ns.length < 65536) (h0 : 0 ≤ most) (hm : most + ns.length ≤ 65536)
    (hc : Calls Tryd.prog 49 #[ptr ab, ptr p, ptr q] w fun e w' => ∃ y : Int, e = .returned (.tuple #[.int .i64 y, .int .i64 0]) ∧ P y w') :
    Calls Tryd.prog 48 #[ptr ab, .int .i64 most, .func (.func 49) #[] #[ptr p, ptr q]] w fun e w' => ∃ y : Int, e = .returned (.tuple #[.int .i64 y, .int .i64 0]) ∧ P y w' := by
  have HH := Lib.hid (len_any w ab ns.length ns h.half)
  have HC := Lib.hid hc
  have hg1 : ((ns.length : Int) < 65536) := by omega
  have hg2 : decide ((ns.length : Int) < 65536) = true := decide_eq_true hg1
  have hs : (Lit.int .i64 (65536 - (ns.length : Int))).wf = true := WalkArith.wf_i64 (by omega)
  have hg3 : decide (65536 - (ns.length : Int) < most) = false := decide_eq_false (by omega)
  clear h hc
  go_enter Tryd.func48, Tryd.ntmps48
  go_wp2_with (go_at_call 41; refine HH.out.mono ?_; rintro e w1 ⟨rfl, rfl⟩)
  refine HC.out.mono ?_
  rintro e w1 ⟨y, rfl, hp⟩
  have HP := Lib.hid hp
  clear hp
  go_wp2_with fail
  go_ret2
  exact ⟨y, rfl, HP.out⟩
set_option maxHeartbeats 800000 in
set_option maxRecDepth 100000 in
theorem whole_joined (w : World) (ab p q : Nat) (ns : List Nd) (foot : Nat → Prop) (most : Int) (P : Int → World → Prop) (h : Ar w ab ns foot) (hl : ns.length < 65536) (h0 : 0 ≤ most) (hm : most + ns.length ≤ 65536)
    (hc : Calls Tryd.prog 59 #[ptr ab, ptr p, ptr q] w fun e w' => ∃ y : Int, e = .returned (.tuple #[.int .i64 y, .int .i64 0]) ∧ P y w') :
    Calls Tryd.prog 48 #[ptr ab, .int .i64 most, .func (.func 59) #[] #[ptr p, ptr q]] w fun e w' => ∃ y : Int, e = .returned (.tuple #[.int .i64 y, .int .i64 0]) ∧ P y w' := by
  have HH := Lib.hid (len_any w ab ns.length ns h.half)
  have HC := Lib.hid hc
  have hg1 : ((ns.length : Int) < 65536) := by omega
  have hg2 : decide ((ns.length : Int) < 65536) = true := decide_eq_true hg1
  have hs : (Lit.int .i64 (65536 - (ns.length : Int))).wf = true := WalkArith.wf_i64 (by omega)
  have hg3 : decide (65536 - (ns.length : Int) < most) = false := decide_eq_false (by omega)
  clear h hc
  go_enter Tryd.func48, Tryd.ntmps48
  go_wp2_with (go_at_call 41; refine HH.out.mono ?_; rintro e w1 ⟨rfl, rfl⟩)
  refine HC.out.mono ?_
  rintro e w1 ⟨y, rfl, hp⟩
  have HP := Lib.hid hp
  clear hp
  go_wp2_with fail
  go_ret2
  exact ⟨y, rfl, HP.out⟩
end Go.Proofs.YtgbmiphaabeodaaDoor
