/-
  A reckoning answers what a term is worth, and leaves all but its own blocks alone: value and reckon of package term, and Eval.
-/
import Derived.Test.YtgbmiphaabeodaaDoorTermE
import Derived.Test.YtgbmiphaabeodaaDoorWide
namespace Go.Proofs.YtgbmiphaabeodaaDoor
open Go.ChangeShapes Go.WideShapes Go.ChangeAt Go.RowKit
set_option linter.unusedVariables false
attribute [local go_sem ↓] Go.wp_at_zero Go.wp_at_succ

section
variable {w w' w'' : World} {eb ab : Nat} {ns : List Nd} {foot : Nat → Prop} {A : Option Addr} {cap : Nat} {env : List Int} {mo mo' mo'' : Option Nat}
theorem Ev.drew (h : Ev w eb ab ns foot A cap env mo) : Ev w.drew eb ab ns foot A cap env mo := h.below ⟨rfl, rfl, rfl, Nat.le_refl _, fun _ _ => rfl⟩
theorem EvPost.has (h : EvPost w eb ab ns foot A cap env mo w' mo') {g : Nat} {t : TypeId} {cs : Array Value} (hg : Has w g t cs) (h1 : g ≠ eb) (h2 : mo ≠ some g) : Has w' g t cs :=
  hg.kept h.kept (by rintro (e | e); exact h1 e; exact h2 e)
theorem EvPost.has2 (h : EvPost w eb ab ns foot A cap env mo w' mo') {w0 : World} {g : Nat} {t : TypeId} {cs : Array Value} (hg : Has w0 g t cs) (he : w.heap = w0.heap) (h1 : g ≠ eb) (h2 : mo ≠ some g) : Has w' g t cs :=
  h.has (by unfold Has at hg ⊢; rw [he]; exact hg) h1 h2
theorem EvPost.alloc (h : Ev w eb ab ns foot A cap env mo) (o : Obj) : EvPost w eb ab ns foot A cap env mo (w.alloc o) mo := .of_below h ((Below.refl _ _).alloc (Nat.le_refl _) _)
theorem EvPost.drew (h : EvPost w eb ab ns foot A cap env mo w' mo') : EvPost w eb ab ns foot A cap env mo w'.drew mo' := ⟨h.ev.drew, h.kept.drew, h.mo⟩
theorem EvPost.drewN (h : EvPost w eb ab ns foot A cap env mo w' mo') (n : Nat) : EvPost w eb ab ns foot A cap env mo (w'.drewN n) mo' := ⟨h.ev.drewN n, h.kept.drewN n, h.mo⟩
theorem Ev.alike {W : World} (h : Ev w eb ab ns foot A cap env mo) (he : W.heap = w.heap) : Ev W eb ab ns foot A cap env mo :=
  ⟨h.ar.keep (fun b _ => by rw [he]) (by rw [he]; exact Nat.le_refl _), by obtain ⟨c, hc⟩ := h.blk; exact ⟨c, hc.same (by rw [he])⟩, h.nf, h.env_.keep (fun a ha => by rw [he]) (by rw [he]; exact Nat.le_refl _), h.nq, fun b hb => by
    obtain ⟨h1, D, ho, hd⟩ := h.seen b hb
    exact ⟨h1, D, ownsMap_same ho (by rw [he]), hd⟩⟩
theorem EvPost.alike {W : World} (h : EvPost w eb ab ns foot A cap env mo w' mo') (he : W.heap = w'.heap) (h1 : W.os = w'.os) (h2 : W.tape = w'.tape) (h3 : W.output = w'.output) : EvPost w eb ab ns foot A cap env mo W mo' :=
  ⟨h.ev.alike he, ⟨h1.trans h.kept.os, h2.trans h.kept.tape, h3.trans h.kept.output, by rw [he]; exact h.kept.size, fun k hk hn => by rw [he]; exact h.kept.block k hk hn⟩, h.mo⟩
theorem EvPost.next {W : World} (h : EvPost w eb ab ns foot A cap env mo w' mo') (k : EvPost W eb ab ns foot A cap env mo' w'' mo'') (he : W.heap = w'.heap) (h1 : W.os = w'.os) (h2 : W.tape = w'.tape) (h3 : W.output = w'.output) : EvPost w eb ab ns foot A cap env mo w'' mo'' :=
  (h.alike he h1 h2 h3).trans k
theorem EvPost.next_below {W : World} (h : EvPost w eb ab ns foot A cap env mo w' mo') (k : Below W.heap.size W w'') (he : W.heap = w'.heap) (h1 : W.os = w'.os) (h2 : W.tape = w'.tape) (h3 : W.output = w'.output) : EvPost w eb ab ns foot A cap env mo w'' mo' :=
  (h.alike he h1 h2 h3).trans (.of_below (h.ev.alike he) k)
end
def ValueAt (eb ab : Nat) (ns : List Nd) (foot : Nat → Prop) (A : Option Addr) (cap : Nat) (env : List Int) (p : Int) : Prop :=
  ∀ w mo, Ev w eb ab ns foot A cap env mo → Calls Tryd.prog 27 #[ptr eb, .int .i64 p] w fun e w' => e = .returned (.int .u16 (V ns env p)) ∧ KeptV w eb ab ns foot A cap env mo w'

theorem reckon_ite (eb ab : Nat) (ns : List Nd) (foot : Nat → Prop) (A : Option Addr) (cap : Nat) (env : List Int) (wd val a b c : Int)
    (Ha : ValueAt eb ab ns foot A cap env a) (Hb : ValueAt eb ab ns foot A cap env b) (Hc : ValueAt eb ab ns foot A cap env c) (w : World) (mo : Option Nat) (h : Ev w eb ab ns foot A cap env mo) :
    Calls Tryd.prog 44 #[ptr eb, Nd.ag ⟨16, wd, val, a, b, c⟩] w fun e w' => e = .returned (.int .u16 (if V ns env a = 1 then V ns env b else V ns env c)) ∧ KeptV w eb ab ns foot A cap env mo w' := by
  have hlt := h.lt
  have H := Lib.hid h
  have Hm : Hid (mo ≠ some w.heap.size) := fun e => by have := h.molt e; omega
  clear h
  have HA := Lib.hid Ha
  have HB := Lib.hid Hb
  have HC := Lib.hid Hc
  clear Ha Hb Hc
  by_cases hv : V ns env a = 1
  · rw [if_pos hv]
    have hv' : (V ns env a == 1) = true := by simpa using hv
    clear hv
    go_enter Tryd.func44, Tryd.ntmps44
    go_wp2_with fail
    refine (HA.out _ _ (H.out.alloc _)).mono ?_
    rintro e w1 ⟨rfl, mo1, hp⟩
    have hB := hp.has (Has.new w _ _) (by omega) Hm.out
    have k4 : w1.cell? ⟨w.heap.size, 4, none⟩ = some (.int .i64 b) := hB.cell 4
    have k5 : w1.cell? ⟨w.heap.size, 5, none⟩ = some (.int .i64 c) := hB.cell 5
    have HP := Lib.hid ((EvPost.alloc H.out _).trans hp)
    clear hB hp
    go_wp2_with fail
    refine (HB.out _ _ HP.out.ev).mono ?_
    rintro e w2 ⟨rfl, mo2, hp2⟩
    have HP2 := Lib.hid hp2
    clear hp2
    go_wp2
    go_ret
    exact ⟨rfl, mo2, HP.out.trans HP2.out⟩
  · rw [if_neg hv]
    have hv' : (V ns env a == 1) = false := by simpa using hv
    clear hv
    go_enter Tryd.func44, Tryd.ntmps44
    go_wp2_with fail
    refine (HA.out _ _ (H.out.alloc _)).mono ?_
    rintro e w1 ⟨rfl, mo1, hp⟩
    have hB := hp.has (Has.new w _ _) (by omega) Hm.out
    have k4 : w1.cell? ⟨w.heap.size, 4, none⟩ = some (.int .i64 b) := hB.cell 4
    have k5 : w1.cell? ⟨w.heap.size, 5, none⟩ = some (.int .i64 c) := hB.cell 5
    have HP := Lib.hid ((EvPost.alloc H.out _).trans hp)
    clear hB hp
    go_wp2_with fail
    refine (HC.out _ _ HP.out.ev).mono ?_
    rintro e w2 ⟨rfl, mo2, hp2⟩
    have HP2 := Lib.hid hp2
    clear hp2
    go_wp2
    go_ret
    exact ⟨rfl, mo2, HP.out.trans HP2.out⟩
theorem reckon_ext (eb ab : Nat) (ns : List Nd) (foot : Nat → Prop) (A : Option Addr) (cap : Nat) (env : List Int) (op wd val a b c : Int) (ho : op = 17 ∨ op = 18) (hw : mayw wd)
    (Ha : ValueAt eb ab ns foot A cap env a) (hv : 0 ≤ V ns env a ∧ V ns env a ≤ 65535) (w : World) (mo : Option Nat) (h : Ev w eb ab ns foot A cap env mo) :
    Calls Tryd.prog 44 #[ptr eb, Nd.ag ⟨op, wd, val, a, b, c⟩] w fun e w' => e = .returned (.int .u16 (low wd (V ns env a))) ∧ KeptV w eb ab ns foot A cap env mo w' := by
  have hlt := h.lt
  have H := Lib.hid h
  have Hm : Hid (mo ≠ some w.heap.size) := fun e => by have := h.molt e; omega
  have hne : w.heap.size ≠ eb := by omega
  have E := Lib.hid (u16_mask hw _ hv.1 hv.2)
  clear h hv
  have HA := Lib.hid Ha
  clear Ha
  rcases ho with rfl | rfl
  all_goals
    have HN := fun o => Lib.hid (Has.new w 85 #[.int .i64 o, .int .i64 wd, .int .u16 val, .int .i64 a, .int .i64 b, .int .i64 c])
    go_enter Tryd.func44, Tryd.ntmps44
    go_wp2_with fail
    go_region_held3 (fun w' => w'.cell? ⟨w.heap.size, 3, none⟩ = some (.int .i64 a) ∧ w'.cell? ⟨w.heap.size, 1, none⟩ = some (.int .i64 wd)) (go_keep)
      (first | (go_at_call 27; refine (HA.out _ mo ?_).mono ?_; (repeat (first | exact H.out | refine Ev.drew ?_ | refine Ev.drewN ?_ _ | refine Ev.alloc ?_ _)); rintro e w1 ⟨rfl, mo1, hp⟩; have hB := hp.has2 (HN _).out rfl hne Hm.out; have k3 : w1.cell? ⟨w.heap.size, 3, none⟩ = some (.int .i64 a) := hB.cell 3; have k1 : w1.cell? ⟨w.heap.size, 1, none⟩ = some (.int .i64 wd) := hB.cell 1; have HP := Lib.hid hp; clear hp hB) | (go_at_call 37; refine (mask_yes _ _ hw).mono ?_; rintro e w' ⟨rfl, rfl⟩))
    all_goals
      go_wp2
      go_ret
      refine ⟨by show Ending.returned (Value.int .u16 (bits .and .u16 (V ns env a) (mask wd))) = _; rw [E.out]; rfl, mo1, ?_⟩
      repeat (first | (refine EvPost.trans (mo' := mo) ?_ HP.out) | exact EvPost.alloc H.out _ | refine EvPost.drew ?_ | refine EvPost.drewN ?_ _)
theorem reckon_op (eb ab : Nat) (ns : List Nd) (foot : Nat → Prop) (A : Option Addr) (cap : Nat) (env : List Int) (op wd val a b c : Int) (h3 : 3 ≤ op) (h15 : op ≤ 15) (hw : mayw (wdt ns a))
    (Ha : ValueAt eb ab ns foot A cap env a) (Hb : ValueAt eb ab ns foot A cap env b) (hva : 0 ≤ V ns env a ∧ V ns env a ≤ 65535) (hvb : 0 ≤ V ns env b ∧ V ns env b ≤ 65535) (w : World) (mo : Option Nat) (h : Ev w eb ab ns foot A cap env mo) :
    Calls Tryd.prog 44 #[ptr eb, Nd.ag ⟨op, wd, val, a, b, c⟩] w fun e w' => e = .returned (.int .u16 (doM op (wdt ns a) (low (wdt ns a) (V ns env a)) (low (wdt ns a) (V ns env b)))) ∧ KeptV w eb ab ns foot A cap env mo w' := by
  have hlt := h.lt
  have H := Lib.hid h
  have Hm : Hid (mo ≠ some w.heap.size) := fun e => by have := h.molt e; omega
  have hne : w.heap.size ≠ eb := by omega
  have t16 : (op == 16) = false := by simp; omega
  have t17 : (op == 17) = false := by simp; omega
  have t18 : (op == 18) = false := by simp; omega
  have hc0 := h.arena
  have HD := fun W => Lib.hid (do_yes op (wdt ns a) (V ns env a) (V ns env b) W hw h3 h15 hva.1 hva.2 hvb.1 hvb.2)
  have HW := fun (W : World) (hW : Ev W eb ab ns foot A cap env mo) => Lib.hid (width_any W ab ns foot a hW.ar)
  clear h hva hvb h3 h15 hw
  have HA := Lib.hid Ha
  have HB := Lib.hid Hb
  clear Ha Hb
  have HR := Lib.hid (EvPost.refl (H.out.alloc (.cells #[.int .i64 op, .int .i64 wd, .int .u16 val, .int .i64 a, .int .i64 b, .int .i64 c] 85)))
  have HN := Lib.hid (Has.new w 85 #[.int .i64 op, .int .i64 wd, .int .u16 val, .int .i64 a, .int .i64 b, .int .i64 c])
  go_enter Tryd.func44, Tryd.ntmps44
  go_wp2_with fail
  go_region_held3 (fun w' => w'.cell? ⟨w.heap.size, 0, none⟩ = some (.int .i64 op) ∧ w'.cell? ⟨w.heap.size, 3, none⟩ = some (.int .i64 a) ∧ w'.cell? ⟨w.heap.size, 4, none⟩ = some (.int .i64 b) ∧ w'.cell? ⟨eb, 0, none⟩ = some (ptr ab)) (go_keep)
    (first | (go_at_call 14; refine (HW _ (by exact HR.out.ev.alike rfl)).out.mono ?_; rintro e wW ⟨rfl, hbW⟩; have HP1 := Lib.hid (HR.out.next_below hbW rfl rfl rfl rfl); have hB := HP1.out.has HN.out hne Hm.out; have a0 : wW.cell? ⟨w.heap.size, 0, none⟩ = some (.int .i64 op) := hB.cell 0; have a3 : wW.cell? ⟨w.heap.size, 3, none⟩ = some (.int .i64 a) := hB.cell 3; have a4 : wW.cell? ⟨w.heap.size, 4, none⟩ = some (.int .i64 b) := hB.cell 4; have a5 : wW.cell? ⟨eb, 0, none⟩ = some (ptr ab) := HP1.out.ev.arena; clear hbW hB) | (go_at_call_of 27 (Value.int IntKind.i64 a); refine (HA.out _ mo (by exact HP1.out.ev.alike rfl)).mono ?_; rintro e wA ⟨rfl, moA, hpA⟩; have HP2 := Lib.hid (HP1.out.next hpA rfl rfl rfl rfl); have hB := HP2.out.has HN.out hne Hm.out; have b0 : wA.cell? ⟨w.heap.size, 0, none⟩ = some (.int .i64 op) := hB.cell 0; have b3 : wA.cell? ⟨w.heap.size, 3, none⟩ = some (.int .i64 a) := hB.cell 3; have b4 : wA.cell? ⟨w.heap.size, 4, none⟩ = some (.int .i64 b) := hB.cell 4; have b5 : wA.cell? ⟨eb, 0, none⟩ = some (ptr ab) := HP2.out.ev.arena; clear hpA hB) | (go_at_call_of 27 (Value.int IntKind.i64 b); refine (HB.out _ moA (by exact HP2.out.ev.alike rfl)).mono ?_; rintro e wB ⟨rfl, moB, hpB⟩; have HP3 := Lib.hid (HP2.out.next hpB rfl rfl rfl rfl); have hB := HP3.out.has HN.out hne Hm.out; have d0 : wB.cell? ⟨w.heap.size, 0, none⟩ = some (.int .i64 op) := hB.cell 0; have d3 : wB.cell? ⟨w.heap.size, 3, none⟩ = some (.int .i64 a) := hB.cell 3; have d4 : wB.cell? ⟨w.heap.size, 4, none⟩ = some (.int .i64 b) := hB.cell 4; have d5 : wB.cell? ⟨eb, 0, none⟩ = some (ptr ab) := HP3.out.ev.arena; clear hpB hB) | (go_at_call 56; refine (HD _).out.mono ?_; rintro e w' ⟨rfl, rfl⟩))
  go_wp2
  go_ret
  exact ⟨rfl, moB, (EvPost.alloc H.out _).trans (by exact HP3.out.alike rfl rfl rfl rfl)⟩
theorem reckon_any (eb ab : Nat) (ns : List Nd) (foot : Nat → Prop) (A : Option Addr) (cap : Nat) (env : List Int) (n : Nd) (hn : NW ns n) (h3 : 3 ≤ n.op) (hwf : WF ns)
    (Ha : ValueAt eb ab ns foot A cap env n.a) (Hb : ValueAt eb ab ns foot A cap env n.b) (Hc : ValueAt eb ab ns foot A cap env n.c) (w : World) (mo : Option Nat) (h : Ev w eb ab ns foot A cap env mo) :
    Calls Tryd.prog 44 #[ptr eb, n.ag] w fun e w' => e = .returned (.int .u16 (nv (wdt ns) (V ns env) env n)) ∧ KeptV w eb ab ns foot A cap env mo w' := by
  have h1 := hn.op1
  have va := V_u16 hwf env n.a
  have vb := V_u16 hwf env n.b
  unfold nv
  rw [if_neg (by omega), if_neg (by omega)]
  by_cases h16 : n.op = 16
  · rw [if_pos h16]
    obtain ⟨op, wd, val, a, b, c⟩ := n
    obtain rfl : op = 16 := h16
    exact reckon_ite eb ab ns foot A cap env wd val a b c Ha Hb Hc w mo h
  · rw [if_neg h16]
    by_cases h17 : n.op = 17 ∨ n.op = 18
    · rw [if_pos h17]
      exact reckon_ext eb ab ns foot A cap env n.op n.w n.val n.a n.b n.c h17 hn.mw Ha va w mo h
    · rw [if_neg h17]
      have ht : isT ns n.a := ⟨(hn.three (by omega) (by omega)).2, hn.pa.2⟩
      exact reckon_op eb ab ns foot A cap env n.op n.w n.val n.a n.b n.c h3 (by omega) (wdt_may hwf ht) Ha Hb va vb w mo h

theorem value_none (eb ab : Nat) (ns : List Nd) (foot : Nat → Prop) (A : Option Addr) (cap : Nat) (env : List Int) (x : Int) (hx : ¬ isT ns x) : ValueAt eb ab ns foot A cap env x := by
  intro w mo h
  rw [V_none env hx]
  have HN := Lib.hid (node_no w ab ns foot x h.ar hx)
  have hc0 := h.arena
  have H := Lib.hid h
  clear h hx
  go_enter Tryd.func27, Tryd.ntmps27
  go_wp2_with (go_at_call 33; refine HN.out.mono ?_; rintro e w1 ⟨rfl, hb⟩)
  go_ret
  exact ⟨rfl, mo, (EvPost.of_below H.out hb).trans (EvPost.alloc (H.out.below hb) _)⟩
theorem value_const (eb ab : Nat) (ns : List Nd) (foot : Nat → Prop) (A : Option Addr) (cap : Nat) (env : List Int) (x : Int) (n : Nd) (hwf : WF ns) (hx : nd ns x = some n) (h1 : n.op = 1) : ValueAt eb ab ns foot A cap env x := by
  intro w mo h
  rw [V_const hwf env hx h1]
  have HN := Lib.hid (node_yes w ab ns foot x n h.ar hx)
  have hc0 := h.arena
  have H := Lib.hid h
  obtain ⟨op, wd, val, a, b, c⟩ := n
  obtain rfl : op = 1 := h1
  clear h hx
  go_enter Tryd.func27, Tryd.ntmps27
  go_wp2_with (go_at_call 33; refine HN.out.mono ?_; rintro e w1 ⟨rfl, hb⟩)
  go_ret
  exact ⟨rfl, mo, (EvPost.of_below H.out hb).trans (EvPost.alloc (H.out.below hb) _)⟩
theorem value_var (eb ab : Nat) (ns : List Nd) (foot : Nat → Prop) (A : Option Addr) (cap : Nat) (env : List Int) (x : Int) (n : Nd) (hwf : WF ns) (hx : nd ns x = some n) (h1 : n.op = 2) : ValueAt eb ab ns foot A cap env x := by
  intro w mo h
  have N := NW.nd hwf hx
  have e : V ns env x = low n.w (env.getD n.val.toNat 0) := by rw [V_of hwf env hx]; unfold nv; rw [if_neg (by omega), if_pos h1]
  rw [e]
  clear e
  have HN := Lib.hid (node_yes w ab ns foot x n h.ar hx)
  have hc0 := h.arena
  have H := Lib.hid h
  have HV := fun (W : World) (hW : Ev W eb ab ns foot A cap env mo) => Lib.hid (variable_any W eb ab ns foot A cap env mo n hW N.mw N.v0 N.v1)
  clear N
  obtain ⟨op, wd, val, a, b, c⟩ := n
  obtain rfl : op = 2 := h1
  clear h hx
  go_enter Tryd.func27, Tryd.ntmps27
  go_wp2_with (first | (go_at_call 33; refine HN.out.mono ?_; rintro e w1 ⟨rfl, hb⟩) | (go_at_call 43; refine (HV _ (by exact (H.out.below hb).alloc _)).out.mono ?_; rintro e w2 ⟨rfl, hb2⟩))
  go_ret
  exact ⟨rfl, mo, ((EvPost.of_below H.out hb).trans (EvPost.alloc (H.out.below hb) _)).trans (EvPost.of_below ((H.out.below hb).alloc _) hb2)⟩
set_option maxRecDepth 100000 in
theorem value_op (eb ab : Nat) (ns : List Nd) (foot : Nat → Prop) (A : Option Addr) (cap : Nat) (env : List Int) (x : Int) (n : Nd) (hwf : WF ns) (hx : nd ns x = some n) (h3 : 3 ≤ n.op)
    (Ha : ValueAt eb ab ns foot A cap env n.a) (Hb : ValueAt eb ab ns foot A cap env n.b) (Hc : ValueAt eb ab ns foot A cap env n.c) : ValueAt eb ab ns foot A cap env x := by
  intro w mo h
  have N := NW.nd hwf hx
  have HR : Hid (∀ (w : World) (mo : Option Nat), Ev w eb ab ns foot A cap env mo → Calls Tryd.prog 44 #[ptr eb, n.ag] w fun e w' => e = .returned (.int .u16 (V ns env x)) ∧ KeptV w eb ab ns foot A cap env mo w') := by
    rw [V_of hwf env hx]
    exact fun w mo h => reckon_any eb ab ns foot A cap env n N h3 hwf Ha Hb Hc w mo h
  clear Ha Hb Hc
  have HN := Lib.hid (node_yes w ab ns foot x n h.ar hx)
  have ht : isT ns x := ⟨(nd_pos hx).1, (nd_pos hx).2.1⟩
  have hsz := h.ar.sz
  have HK : Hid (keyOf Tryd.prog 33 (.int .i64 x) = some (.int .i64 x)) := Maps.keyOf_int_mk Tryd.underlying33 (WalkArith.wf_i64 (by unfold isT at ht; omega))
  have HX := Lib.hid ht
  clear N ht hsz
  have hc0 := h.arena
  have H := Lib.hid h
  obtain ⟨op, wd, val, a, b, c⟩ := n
  have t0 : (op == 0) = false := by simp; have : 3 ≤ op := h3; omega
  have t1 : (op == 1) = false := by simp; have : 3 ≤ op := h3; omega
  have t2 : (op == 2) = false := by simp; have : 3 ≤ op := h3; omega
  clear h hx h3
  have G : ∀ (v : Value) (y : Bool), True := fun _ _ => trivial
  clear G
  go_enter Tryd.func27, Tryd.ntmps27
  go_wp2_with fail
  refine HN.out.mono ?_
  rintro e w1 ⟨rfl, hb⟩
  have HB := Lib.hid hb
  have E1 := H.out.below hb
  have E2 := Lib.hid (E1.alloc (.cells #[.int .i64 op, .int .i64 wd, .int .u16 val, .int .i64 a, .int .i64 b, .int .i64 c] 85))
  have k3 : w1.cell? ⟨eb, 3, none⟩ = some (.map mo) := by obtain ⟨c, hc⟩ := E1.blk; exact hc.cell 3
  have hl1 := E1.lt
  clear hb E1
  have hsame : V ns env x = V ns env x := rfl
  clear hsame
  rcases mo with _ | mb
  · have hlook : ∀ W : World, (Instr.lookup 71 (.map none) (.int .i64 x) true).run Tryd.prog W = .ok (.tuple #[.int .u16 0, .bool false]) W := fun W => Maps.look_nil (w := W) true keyedT Tryd.underlying71 (zeroU W) HK.out
    go_wp2_with fail
    refine (HR.out _ _ E2.out).mono ?_
    rintro e w3 ⟨rfl, mo3, hp3⟩
    have HP3 := Lib.hid hp3
    clear hp3
    go_wp2_with fail
    refine (keep_any _ eb ab ns foot A cap env _ x HP3.out.ev HX.out).mono ?_
    rintro e w4 ⟨rfl, mo4, hp4⟩
    have HP4 := Lib.hid hp4
    clear hp4
    go_wp2
    go_ret
    exact ⟨rfl, mo4, ((EvPost.of_below H.out HB.out).trans (EvPost.alloc (H.out.below HB.out) _)).trans (HP3.out.trans HP4.out)⟩
  · obtain ⟨hf, D, ho, hd⟩ := E2.out.seen mb rfl
    obtain ⟨v, ps, hrun, hv⟩ := ho.look_ok keyedT Tryd.underlying71 (zeroU _) (plainElem_int (H := Unit) Tryd.underlying24 (a := 0) (by decide)) HK.out
    cases hh : Maps.has D (.int .i64 x) with
    | true =>
      obtain ⟨y, hy, _, hz⟩ := hd _ hh
      obtain ⟨z, rfl, hz1, _⟩ := plainElem_int_inv Tryd.underlying24 hv
      have hyx : y = x := by injection hy with _ hy; exact hy.symm
      subst hyx
      have hzv : z = V ns env y := by
        have := congrArg Prod.fst hz1
        simp only [hz] at this
        injection this with this
        injection this with _ this
        exact this.symm
      subst hzv
      rw [hh] at hrun
      clear hf ho hd hv hh hy hz hz1
      go_wp2
      go_ret
      exact ⟨rfl, some mb, (EvPost.of_below H.out HB.out).trans (EvPost.alloc (H.out.below HB.out) _)⟩
    | false =>
      rw [hh] at hrun
      clear hf ho hd hv hh
      go_wp2_with fail
      refine (HR.out _ _ E2.out).mono ?_
      rintro e w3 ⟨rfl, mo3, hp3⟩
      have HP3 := Lib.hid hp3
      clear hp3
      go_wp2_with fail
      refine (keep_any _ eb ab ns foot A cap env _ x HP3.out.ev HX.out).mono ?_
      rintro e w4 ⟨rfl, mo4, hp4⟩
      have HP4 := Lib.hid hp4
      clear hp4
      go_wp2
      go_ret
      exact ⟨rfl, mo4, ((EvPost.of_below H.out HB.out).trans (EvPost.alloc (H.out.below HB.out) _)).trans (HP3.out.trans HP4.out)⟩

theorem value_any (eb ab : Nat) (ns : List Nd) (foot : Nat → Prop) (A : Option Addr) (cap : Nat) (env : List Int) (hwf : WF ns) : ∀ (k : Nat) (x : Int), x ≤ k → ValueAt eb ab ns foot A cap env x := by
  intro k
  induction k with
  | zero => exact fun x hx => value_none eb ab ns foot A cap env x (by unfold isT; omega)
  | succ k ih =>
    intro x hx
    by_cases ht : isT ns x
    · obtain ⟨n, hn, _⟩ := nd_some ht
      obtain ⟨k1, k2, k3, _⟩ := hwf.below hn
      have o0 := (NW.nd hwf hn).op0
      by_cases h1 : n.op = 1
      · exact value_const eb ab ns foot A cap env x n hwf hn h1
      by_cases h2 : n.op = 2
      · exact value_var eb ab ns foot A cap env x n hwf hn h2
      exact value_op eb ab ns foot A cap env x n hwf hn (by omega) (ih _ (by omega)) (ih _ (by omega)) (ih _ (by omega))
    · exact value_none eb ab ns foot A cap env x ht
theorem value_all (eb ab : Nat) (ns : List Nd) (foot : Nat → Prop) (A : Option Addr) (cap : Nat) (env : List Int) (hwf : WF ns) (x : Int) : ValueAt eb ab ns foot A cap env x := value_any eb ab ns foot A cap env hwf x.toNat x (by omega)
end Go.Proofs.YtgbmiphaabeodaaDoor
