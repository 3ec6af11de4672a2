/-
  Size of package fix; All and Any of nothing.
-/
import Derived.Test.YtgbmiphaabeodaaDoorFixW
import Derived.Test.YtgbmiphaabeodaaDoorFixS
namespace Go.Proofs.YtgbmiphaabeodaaDoor
open Go.ChangeShapes Go.WideShapes Go.ChangeAt Go.RowKit
set_option linter.unusedVariables false
attribute [local go_sem ↓] Go.wp_at_zero Go.wp_at_succ

theorem fwithin_no (w : World) (ab : Nat) (ns : List Nd) (foot : Nat → Prop) (x : Int) (h : Ar w ab ns foot) (hx : ¬ isT ns x) :
    Calls Tryd.prog 34 #[ptr ab, .int .i64 x] w fun e w' => e = .returned (.slice none 0 0) ∧ Below w.heap.size w w' := by
  have HW := Lib.hid (width_any w ab ns foot x h)
  rw [wdt_none hx] at HW
  clear h hx
  go_enter Tryd.func34, Tryd.ntmps34
  go_wp2_with fail
  refine HW.out.mono ?_
  rintro e w1 ⟨rfl, hb⟩
  have HB := Lib.hid hb
  clear hb
  go_wp2_with fail
  go_ret
  exact ⟨rfl, HB.out⟩
def SzPost (w : World) (ns : List Nd) (x : Int) (e : Ending) (w' : World) : Prop := ∃ ls, e = .returned (.int .i64 (ls.length : Int)) ∧ Wl ns x ls ∧ Below w.heap.size w w'
theorem size_yes (w : World) (ab : Nat) (ns : List Nd) (foot : Nat → Prop) (x : Int) (h : Ar w ab ns foot) (hx : isT ns x) :
    Calls Tryd.prog 16 #[ptr ab, .int .i64 x] w (SzPost w ns x) := by
  have HW := Lib.hid (fwithin_any w ab ns foot x h hx)
  clear h hx
  go_enter Tryd.func16, Tryd.ntmps16
  go_wp2_with fail
  refine HW.out.mono ?_
  rintro e w1 ⟨ls, g, cap, rfl, hw, hn, hb, hc1, hc2, hg⟩
  have HA := Lib.hid (And.intro hw hb)
  clear hw hn hb hg
  go_wp2_with fail
  go_ret
  exact ⟨ls, rfl, HA.out.1, HA.out.2⟩
theorem size_no (w : World) (ab : Nat) (ns : List Nd) (foot : Nat → Prop) (x : Int) (h : Ar w ab ns foot) (hx : ¬ isT ns x) :
    Calls Tryd.prog 16 #[ptr ab, .int .i64 x] w fun e w' => e = .returned (.int .i64 0) ∧ Below w.heap.size w w' := by
  have HW := Lib.hid (fwithin_no w ab ns foot x h hx)
  clear h hx
  go_enter Tryd.func16, Tryd.ntmps16
  go_wp2_with fail
  refine HW.out.mono ?_
  rintro e w1 ⟨rfl, hb⟩
  have HA := Lib.hid hb
  clear hb
  go_wp2_with fail
  go_ret
  exact ⟨rfl, HA.out⟩
theorem wl_leaf {ns : List Nd} (hwf : WF ns) {x : Int} {n : Nd} (hn : nd ns x = some n) (h : n.op = 1 ∨ n.op = 2) {ls : List Int} (hw : Wl ns x ls) : ls.length = 1 := by
  have key : ∀ z, Reach ns x z → z = x := by
    intro z hz
    induction hz with
    | refl => rfl
    | step r hm hp h1 ih =>
      subst ih
      obtain rfl := Option.some.inj (hn.symm.trans hm)
      have N := NW.nd hwf hn
      have : n.a = 0 ∧ n.b = 0 ∧ n.c = 0 := by
        rcases h with e | e
        · exact (N.one e).2
        · exact (N.two e).2
      omega
  match ls, hw with
  | [], hw => have := hw.mem; cases this
  | [a], hw => rfl
  | a :: b :: r, hw =>
    have h1 := key a (hw.all a (by simp)).2.2
    have h2 := key b (hw.all b (by simp)).2.2
    have := (List.pairwise_cons.1 hw.lt).1 b (by simp)
    omega
theorem wl_pos {ns : List Nd} {x : Int} {ls : List Int} (hw : Wl ns x ls) : 1 ≤ ls.length := by
  cases ls with
  | nil => have := hw.mem; cases this
  | cons a r => simp
theorem truths_nil (w : World) (ab cap : Nat) (A : Option Addr) : Calls Tryd.prog 57 #[ptr ab, .slice A 0 cap] w fun e w' => e = .returned (.int .i64 0) ∧ w = w' := by
  go_enter Tryd.func57, Tryd.ntmps57
  go_wp2
  refine wp_loop_rounds 1 ?_
  rw [rounds_succ]
  go_wp2
  go_ret
  exact ⟨rfl, rfl⟩
theorem telling_nil (w : World) (ab cap : Nat) (A : Option Addr) (v : Int) : Calls Tryd.prog 58 #[ptr ab, .int .u16 v, .slice A 0 cap] w fun e w' => e = .returned (.slice none 0 0) ∧ Below w.heap.size w w' := by
  have hmm := @run_makeMap Tryd.prog
  go_enter Tryd.func58, Tryd.ntmps58
  go_wp2
  refine wp_loop_rounds 1 ?_
  rw [rounds_succ]
  go_wp2
  go_ret
  exact ⟨rfl, (Below.refl _ _).alloc (Nat.le_refl _) _⟩
theorem Cur.q_lt {W0 w : World} {ab : Nat} {ns : List Nd} {Q : Nat → Prop} (h : Cur W0 w ab ns Q) : ∀ k, Q k → k < w.heap.size := by obtain ⟨foot, _, _, _, d⟩ := h; exact d
theorem Nxt.back {W0 w wx w' : World} {ab : Nat} {ns ns' : List Nd} {Q Q' : Nat → Prop} (N : Nxt W0 wx ab ns Q' w' ns') (hq : ∀ k, Q k → Q' k) (hs : ∀ k, Q k → wx.heap[k]? = w.heap[k]?) (hsz : w.heap.size ≤ wx.heap.size) : Nxt W0 w ab ns Q w' ns' :=
  ⟨N.cur.less hq, N.ext, N.len, fun k h => (N.q k (hq k h)).trans (hs k h), Nat.le_trans hsz N.sz⟩
theorem joined_nil_all (W0 w : World) (ab : Nat) (ns : List Nd) (Q : Nat → Prop) (cap : Nat) (A : Option Addr) (C : Cur W0 w ab ns Q) (hl : ns.length < 65536) :
    Calls Tryd.prog 46 #[ptr ab, .int .i64 4, .int .u16 1, .slice A 0 cap] w (More W0 w ab ns Q (fun ns' x => nd ns' x = some ⟨1, 1, 1, 0, 0, 0⟩)) := by
  have hq0 := C.q_lt
  have C1 := Lib.hid ((C.mine (.cells #[.int .i64 4] 3)).mine (.cells #[.slice A 0 cap] 88))
  have HB : Hid (Has ((w.alloc (.cells #[.int .i64 4] 3)).alloc (.cells #[.slice A 0 cap] 88)) (w.heap.size + 1) 88 #[.slice A 0 cap]) := by
    have := Has.new (w.alloc (.cells #[.int .i64 4] 3)) 88 #[.slice A 0 cap]
    rwa [show (w.alloc (.cells #[.int .i64 4] 3)).heap.size = w.heap.size + 1 by simp] at this
  have HQ := Lib.hid (show ∀ k, Q k → ((w.alloc (.cells #[.int .i64 4] 3)).alloc (.cells #[.slice A 0 cap] 88)).heap[k]? = w.heap[k]? from fun k hk => (alloc_other (by have := hq0 k hk; simp; omega)).trans (alloc_other (hq0 k hk)))
  have HQ0 := Lib.hid hq0
  have HLB := Lib.hid C.below0.size
  clear C hq0
  go_enter Tryd.func46, Tryd.ntmps46
  go_wp2_with fail
  refine (truths_nil _ ab cap A).mono ?_
  rintro e w' ⟨rfl, rfl⟩
  go_wp2_with fail
  refine (telling_nil _ ab cap A 1).mono ?_
  rintro e w2 ⟨rfl, hb⟩
  have HB2 := Lib.hid (HB.out.same (hb.block _ HB.out.lt))
  have C2 := Lib.hid (C1.out.below hb)
  have HQ2 : Hid (∀ k, Q k → w2.heap[k]? = w.heap[k]?) := fun k hk => (hb.block k (by have := HQ0.out k hk; simp; omega)).trans (HQ.out k hk)
  have HS2 : Hid (w.heap.size + 2 ≤ w2.heap.size) := by have := hb.size; simp at this; show w.heap.size + 2 ≤ w2.heap.size; omega
  have q0 : w2.cell? ⟨w.heap.size + 1, 0, none⟩ = some (.slice A 0 cap) := HB2.out.cell 0
  have qf : ∀ i, w2.frozen? ⟨w.heap.size + 1, i, none⟩ = false := HB2.out.free
  have ql : w.heap.size + 1 < w2.heap.size := HB2.out.lt
  have C3 := Lib.hid (C2.out.store (p := ⟨w.heap.size + 1, 0, none⟩) (.inr (by simp)) (show W0.heap.size ≤ w.heap.size + 1 by have := HLB.out; omega) (.slice none 0 0))
  clear hb
  go_wp2_with fail
  refine (l_const _ _ _ _ _ 1 1 C3.out hl m1 (by decide) (by decide)).mono ?_
  rintro e w4 ⟨x, ns', rfl, N, hx, _⟩
  have HN := Lib.hid N
  have HX := Lib.hid hx
  clear N hx
  go_wp2_with fail
  go_ret2
  refine ⟨x, ns', rfl, HN.out.back (fun k hk => .inl (.inl hk)) (fun k hk => ?_) (by have := HS2.out; simp [World.setCell]; omega), HX.out⟩
  exact (set_other (p := ⟨w.heap.size + 1, 0, none⟩) (by have := HQ0.out k hk; simp; omega)).trans (HQ2.out k hk)
theorem all_nil (W0 w : World) (ab : Nat) (ns : List Nd) (Q : Nat → Prop) (cap : Nat) (A : Option Addr) (C : Cur W0 w ab ns Q) (hl : ns.length < 65536) :
    Calls Tryd.prog 28 #[ptr ab, .slice A 0 cap] w (More W0 w ab ns Q (fun ns' x => nd ns' x = some ⟨1, 1, 1, 0, 0, 0⟩)) := by
  have HJ := Lib.hid (joined_nil_all W0 w ab ns Q cap A C hl)
  clear C
  go_enter Tryd.func28, Tryd.ntmps28
  go_wp2_with fail
  refine HJ.out.mono ?_
  rintro e w1 ⟨x, ns', rfl, N, hx⟩
  have HN := Lib.hid N
  have HX := Lib.hid hx
  clear N hx
  go_wp2_with fail
  go_ret2
  exact ⟨x, ns', rfl, HN.out, HX.out⟩
theorem joined_nil_any (W0 w : World) (ab : Nat) (ns : List Nd) (Q : Nat → Prop) (cap : Nat) (A : Option Addr) (C : Cur W0 w ab ns Q) (hl : ns.length < 65536) :
    Calls Tryd.prog 46 #[ptr ab, .int .i64 5, .int .u16 0, .slice A 0 cap] w (More W0 w ab ns Q (fun ns' x => nd ns' x = some ⟨1, 1, 0, 0, 0, 0⟩)) := by
  have hq0 := C.q_lt
  have C1 := Lib.hid ((C.mine (.cells #[.int .i64 5] 3)).mine (.cells #[.slice A 0 cap] 88))
  have HB : Hid (Has ((w.alloc (.cells #[.int .i64 5] 3)).alloc (.cells #[.slice A 0 cap] 88)) (w.heap.size + 1) 88 #[.slice A 0 cap]) := by
    have := Has.new (w.alloc (.cells #[.int .i64 5] 3)) 88 #[.slice A 0 cap]
    rwa [show (w.alloc (.cells #[.int .i64 5] 3)).heap.size = w.heap.size + 1 by simp] at this
  have HQ := Lib.hid (show ∀ k, Q k → ((w.alloc (.cells #[.int .i64 5] 3)).alloc (.cells #[.slice A 0 cap] 88)).heap[k]? = w.heap[k]? from fun k hk => (alloc_other (by have := hq0 k hk; simp; omega)).trans (alloc_other (hq0 k hk)))
  have HQ0 := Lib.hid hq0
  have HLB := Lib.hid C.below0.size
  clear C hq0
  go_enter Tryd.func46, Tryd.ntmps46
  go_wp2_with fail
  refine (truths_nil _ ab cap A).mono ?_
  rintro e w' ⟨rfl, rfl⟩
  go_wp2_with fail
  refine (telling_nil _ ab cap A 0).mono ?_
  rintro e w2 ⟨rfl, hb⟩
  have HB2 := Lib.hid (HB.out.same (hb.block _ HB.out.lt))
  have C2 := Lib.hid (C1.out.below hb)
  have HQ2 : Hid (∀ k, Q k → w2.heap[k]? = w.heap[k]?) := fun k hk => (hb.block k (by have := HQ0.out k hk; simp; omega)).trans (HQ.out k hk)
  have HS2 : Hid (w.heap.size + 2 ≤ w2.heap.size) := by have := hb.size; simp at this; show w.heap.size + 2 ≤ w2.heap.size; omega
  have q0 : w2.cell? ⟨w.heap.size + 1, 0, none⟩ = some (.slice A 0 cap) := HB2.out.cell 0
  have qf : ∀ i, w2.frozen? ⟨w.heap.size + 1, i, none⟩ = false := HB2.out.free
  have ql : w.heap.size + 1 < w2.heap.size := HB2.out.lt
  have C3 := Lib.hid (C2.out.store (p := ⟨w.heap.size + 1, 0, none⟩) (.inr (by simp)) (show W0.heap.size ≤ w.heap.size + 1 by have := HLB.out; omega) (.slice none 0 0))
  clear hb
  go_wp2_with fail
  refine (l_const _ _ _ _ _ 1 0 C3.out hl m1 (by decide) (by decide)).mono ?_
  rintro e w4 ⟨x, ns', rfl, N, hx, _⟩
  have HN := Lib.hid N
  have HX := Lib.hid hx
  clear N hx
  go_wp2_with fail
  go_ret2
  refine ⟨x, ns', rfl, HN.out.back (fun k hk => .inl (.inl hk)) (fun k hk => ?_) (by have := HS2.out; simp [World.setCell]; omega), HX.out⟩
  exact (set_other (p := ⟨w.heap.size + 1, 0, none⟩) (by have := HQ0.out k hk; simp; omega)).trans (HQ2.out k hk)
end Go.Proofs.YtgbmiphaabeodaaDoor
