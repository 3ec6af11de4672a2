/-
  What Some, All and Any of package fix refuse.
-/
import Derived.Test.YtgbmiphaabeodaaDoorFixB
import Derived.Test.YtgbmiphaabeodaaDoorFixT
namespace Go.Proofs.YtgbmiphaabeodaaDoor
open Go.ChangeShapes Go.WideShapes Go.ChangeAt Go.RowKit
set_option linter.unusedVariables false
attribute [local go_sem ↓] Go.wp_at_zero Go.wp_at_succ

def Err (n : Int) (w : World) (e : Ending) (w' : World) : Prop := e = .returned (.tuple #[.int .i64 0, .int .i64 n]) ∧ Below w.heap.size w w'
section
variable (W0 w : World) (ab : Nat) (ns : List Nd) (Q : Nat → Prop)
theorem some_none (x : Int) (A B : Option Addr) (n m icap vcap : Nat) (C : Cur W0 w ab ns Q) (hx : wdt ns x = 0) :
    Calls Tryd.prog 12 #[ptr ab, .int .i64 x, .slice A n icap, .slice B m vcap] w (Err 1 w) := by
  have HW := Lib.hid (r_width C x)
  rw [hx] at HW
  clear C hx
  go_enter Tryd.func12, Tryd.ntmps12
  go_wp2_with fail
  refine HW.out.mono ?_
  rintro e w1 ⟨rfl, hb⟩
  have HB1 := Lib.hid hb
  clear hb HW
  go_wp2_with fail
  go_ret2
  exact ⟨rfl, HB1.out⟩
theorem some_len (x : Int) (A B : Option Addr) (n m icap vcap : Nat) (C : Cur W0 w ab ns Q) (hx : isT ns x) (hnm : n ≠ m) :
    Calls Tryd.prog 12 #[ptr ab, .int .i64 x, .slice A n icap, .slice B m vcap] w (Err 1 w) := by
  have HW := Lib.hid (r_width C x)
  have hm := wdt_may C.wf hx
  have hw0 : (wdt ns x == 0) = false := by rcases hm with e | e | e <;> rw [e] <;> rfl
  have h1 : ((n : Int) == (m : Int)) = false := by simp; omega
  have h2 : (n == m) = false := by simp; omega
  clear C hx hm
  go_enter Tryd.func12, Tryd.ntmps12
  go_wp2_with fail
  refine HW.out.mono ?_
  rintro e w1 ⟨rfl, hb⟩
  have HB1 := Lib.hid hb
  clear hb HW
  go_wp2_with fail
  go_ret2
  exact ⟨rfl, HB1.out⟩
/-- What truths tells of one term. -/
def tru (k : Int) : Int := if k = 0 then 1 else if k = 1 then 0 else 2
theorem truths_one (x k : Int) (a : Addr) (cap : Nat) (C : Cur W0 w ab ns Q) (hk : wdt ns x = k) (h : k = 0 ∨ k = 8) (hc : w.cell? a = some (.int .i64 x)) (hcap : 1 ≤ cap) (hcap2 : cap ≤ 9223372036854775807) :
    Calls Tryd.prog 57 #[ptr ab, .slice (some a) 1 cap] w fun e w' => e = .returned (.int .i64 (tru k)) ∧ Below w.heap.size w w' := by
  have HW := Lib.hid (r_width C x)
  rw [hk] at HW
  clear C hk
  rcases h with rfl | rfl
  · go_enter Tryd.func57, Tryd.ntmps57
    go_wp2
    refine wp_loop_rounds 2 ?_
    rw [rounds_succ]
    go_wp2_with fail
    refine HW.out.mono ?_
    rintro e w1 ⟨rfl, hb⟩
    have HB1 := Lib.hid hb
    clear hb HW hc
    go_wp2_with fail
    rw [rounds_succ]
    go_wp2
    go_ret
    exact ⟨rfl, HB1.out⟩
  · go_enter Tryd.func57, Tryd.ntmps57
    go_wp2
    refine wp_loop_rounds 2 ?_
    rw [rounds_succ]
    go_wp2_with fail
    refine HW.out.mono ?_
    rintro e w1 ⟨rfl, hb⟩
    have HB1 := Lib.hid hb
    clear hb HW hc
    go_wp2_with fail
    go_ret
    exact ⟨rfl, HB1.out⟩
theorem all_err (x k : Int) (a : Addr) (cap : Nat) (C : Cur W0 w ab ns Q) (hk : wdt ns x = k) (h : k = 0 ∨ k = 8) (ha : a.block < w.heap.size) (hc : w.cell? a = some (.int .i64 x)) (hcap : 1 ≤ cap) (hcap2 : cap ≤ 9223372036854775807) :
    Calls Tryd.prog 28 #[ptr ab, .slice (some a) 1 cap] w (Err (tru k) w) := by
  have hb : Below w.heap.size w ((w.alloc (.cells #[.int .i64 4] 3)).alloc (.cells #[.slice (some a) 1 cap] 88)) := (((Below.refl _ _).alloc (Nat.le_refl _) _).alloc (by simp) _)
  have HB := Lib.hid hb
  have HTU := Lib.hid (truths_one W0 ((w.alloc (.cells #[.int .i64 4] 3)).alloc (.cells #[.slice (some a) 1 cap] 88)) ab ns Q x k a cap ((C.alloc _).alloc _) hk h ((hb.cell ha).trans hc) hcap hcap2)
  have q0 : ((w.alloc (.cells #[.int .i64 4] 3)).alloc (.cells #[.slice (some a) 1 cap] 88)).cell? ⟨w.heap.size + 1, 0, none⟩ = some (.slice (some a) 1 cap) := by
    have := (Has.new (w.alloc (.cells #[.int .i64 4] 3)) 88 #[.slice (some a) 1 cap]).cell 0
    rwa [show (w.alloc (.cells #[.int .i64 4] 3)).heap.size = w.heap.size + 1 by simp] at this
  have ht : (tru k == 0) = false := by rcases h with rfl | rfl <;> rfl
  generalize tru k = t at *
  clear C hc hb hk h
  go_enter Tryd.func28, Tryd.ntmps28
  go_wp2_with (first | (go_at_call 46; go_in) | (go_at_call 57; refine HTU.out.mono ?_; rintro e w2 ⟨rfl, hb⟩; have HB := Lib.hid (HB.out.trans (hb.mono HB.out.size)); clear hb))
  go_ret2
  exact ⟨rfl, HB.out⟩
end
end Go.Proofs.YtgbmiphaabeodaaDoor
