/-
  What Two, Not, Ite, Ext and Cut of package term answer: a term with the value that its operator makes, or why there is none.
-/
import Derived.Test.YtgbmiphaabeodaaDoorTermD
namespace Go.Proofs.YtgbmiphaabeodaaDoor
open Go.ChangeShapes Go.WideShapes Go.ChangeAt Go.RowKit
set_option linter.unusedVariables false
attribute [local go_sem ↓] Go.wp_at_zero Go.wp_at_succ

abbrev ERR (c : Int) : Ending := .returned (.tuple #[.int .i64 0, .int .i64 c])
theorem nw_two {ns : List Nd} (hwf : WF ns) {op x y : Int} (h0 : 4 ≤ op) (h1 : op ≤ 15) (hx : isT ns x) (hy : isT ns y) (hw : wdt ns y = wdt ns x) : NW ns ⟨op, outV op (wdt ns x), 0, x, y, 0⟩ := by
  have hm := wdt_may hwf hx
  unfold isT at hx hy
  refine ⟨outV_may hm, ?_, ?_, ?_, ?_, ?_, ?_, ?_, ?_, ?_, ?_, ?_, ?_, ?_⟩ <;> simp [part] <;> omega
theorem two_yes (w : World) (ab : Nat) (ns : List Nd) (foot : Nat → Prop) (op x y : Int) (h : Ar w ab ns foot) (hl : ns.length < 65536) (h0 : 4 ≤ op) (h1 : op ≤ 15) (hx : isT ns x) (hy : isT ns y) (hw : wdt ns y = wdt ns x) :
    Calls Tryd.prog 18 #[ptr ab, .int .i64 op, .int .i64 x, .int .i64 y] w fun e w' => ∃ z : Int, e = .returned (.tuple #[.int .i64 z, .int .i64 0]) ∧ Got w ab ns foot w' (MadeP ns ⟨op, outV op (wdt ns x), 0, x, y, 0⟩ z) := by
  have HMD := fun W (k : Ar W ab ns foot) => Lib.hid (made_any W ab ns foot _ k hl (nw_two h.wf h0 h1 hx hy hw) ⟨fun e => absurd e (show ¬ op = 16 by omega), fun e => absurd e (show ¬ op = 17 by omega), fun e => absurd e (show ¬ op = 18 by omega)⟩ (show 3 ≤ op by omega))
  have hm := wdt_may h.wf hx
  have HHx := fun W (k : Ar W ab ns foot) => Lib.hid (has_yes W ab ns foot x k hx)
  have HHy := fun W (k : Ar W ab ns foot) => Lib.hid (has_yes W ab ns foot y k hy)
  have HWx := fun W (k : Ar W ab ns foot) => Lib.hid (width_any W ab ns foot x k)
  have HWy := fun W (k : Ar W ab ns foot) => Lib.hid (width_any W ab ns foot y k)
  rw [hw] at HWy
  generalize wdt ns x = wd at *
  have HA := Lib.hid h
  have HA0 := Lib.hid h
  have HB := Lib.hid (Below.refl w.heap.size w)
  have HO := fun W => Lib.hid (out_yes op wd W hm (by omega) h1)
  clear h hl hx hy hw hm
  go_enter Tryd.func18, Tryd.ntmps18
  go_wp2_with (first | (go_at_call_of 25 (Value.int IntKind.i64 x); refine (HHx _ HA.out).out.mono ?_; rintro e w' ⟨rfl, rfl⟩) | (go_at_call_of 25 (Value.int IntKind.i64 y); refine (HHy _ HA.out).out.mono ?_; rintro e w' ⟨rfl, rfl⟩) | (go_at_call_of 14 (Value.int IntKind.i64 x); refine (HWx _ HA.out).out.mono ?_; rintro e W1 ⟨rfl, hb⟩; have HB := Lib.hid (HB.out.trans (hb.mono HB.out.size)); have HA := Lib.hid (HA.out.below hb); clear hb) | (go_at_call_of 14 (Value.int IntKind.i64 y); refine (HWy _ HA.out).out.mono ?_; rintro e W1 ⟨rfl, hb⟩; have HB := Lib.hid (HB.out.trans (hb.mono HB.out.size)); have HA := Lib.hid (HA.out.below hb); clear hb) | (go_at_call 39; refine (HO _).out.mono ?_; rintro e w' ⟨rfl, rfl⟩) | (go_at_call 38; refine (HMD _ HA.out).out.mono ?_; rintro e W2 ⟨z, rfl, hg⟩; have HG := Lib.hid (Got.behind HB.out hg); clear hg))
  go_ret2
  exact ⟨z, rfl, HG.out⟩
theorem two_op (w : World) (ab : Nat) (ns : List Nd) (foot : Nat → Prop) (op x y : Int) (h0 : op < 4 ∨ 15 < op) :
    Calls Tryd.prog 18 #[ptr ab, .int .i64 op, .int .i64 x, .int .i64 y] w fun e w' => e = ERR 5 ∧ w = w' := by
  by_cases h4 : op < 4
  · clear h0
    go_enter Tryd.func18, Tryd.ntmps18
    go_wp2
    go_ret2
    exact ⟨rfl, rfl⟩
  · have h15 : 15 < op := by omega
    clear h0
    go_enter Tryd.func18, Tryd.ntmps18
    go_wp2
    go_ret2
    exact ⟨rfl, rfl⟩
theorem two_width (w : World) (ab : Nat) (ns : List Nd) (foot : Nat → Prop) (op x y : Int) (h : Ar w ab ns foot) (h0 : 4 ≤ op) (h1 : op ≤ 15) (hx : isT ns x) (hy : isT ns y) (hw : wdt ns x ≠ wdt ns y) :
    Calls Tryd.prog 18 #[ptr ab, .int .i64 op, .int .i64 x, .int .i64 y] w fun e w' => e = ERR 2 ∧ Below w.heap.size w w' := by
  have HHx := fun W (k : Ar W ab ns foot) => Lib.hid (has_yes W ab ns foot x k hx)
  have HHy := fun W (k : Ar W ab ns foot) => Lib.hid (has_yes W ab ns foot y k hy)
  have HWx := fun W (k : Ar W ab ns foot) => Lib.hid (width_any W ab ns foot x k)
  have HWy := fun W (k : Ar W ab ns foot) => Lib.hid (width_any W ab ns foot y k)
  generalize wdt ns x = wd at *
  generalize wdt ns y = wy at *
  have hne : (wd != wy) = true := by simpa using hw
  have HA := Lib.hid h
  have HA0 := Lib.hid h
  have HB := Lib.hid (Below.refl w.heap.size w)
  clear h hx hy hw
  go_enter Tryd.func18, Tryd.ntmps18
  go_wp2_with (first | (go_at_call_of 25 (Value.int IntKind.i64 x); refine (HHx _ HA.out).out.mono ?_; rintro e w' ⟨rfl, rfl⟩) | (go_at_call_of 25 (Value.int IntKind.i64 y); refine (HHy _ HA.out).out.mono ?_; rintro e w' ⟨rfl, rfl⟩) | (go_at_call_of 14 (Value.int IntKind.i64 x); refine (HWx _ HA.out).out.mono ?_; rintro e W1 ⟨rfl, hb⟩; have HB := Lib.hid (HB.out.trans (hb.mono HB.out.size)); have HA := Lib.hid (HA.out.below hb); clear hb) | (go_at_call_of 14 (Value.int IntKind.i64 y); refine (HWy _ HA.out).out.mono ?_; rintro e W1 ⟨rfl, hb⟩; have HB := Lib.hid (HB.out.trans (hb.mono HB.out.size)); have HA := Lib.hid (HA.out.below hb); clear hb))
  go_ret2
  exact ⟨rfl, HB.out⟩
theorem two_none (w : World) (ab : Nat) (ns : List Nd) (foot : Nat → Prop) (op x y : Int) (h : Ar w ab ns foot) (h0 : 4 ≤ op) (h1 : op ≤ 15) (hx : isT ns x) (hy : ¬ isT ns y) :
    Calls Tryd.prog 18 #[ptr ab, .int .i64 op, .int .i64 x, .int .i64 y] w fun e w' => e = ERR 1 ∧ Below w.heap.size w w' := by
  have HHx := fun W (k : Ar W ab ns foot) => Lib.hid (has_yes W ab ns foot x k hx)
  have HHy := fun W (k : Ar W ab ns foot) => Lib.hid (has_no W ab ns foot y k hy)
  have HA := Lib.hid h
  have HA0 := Lib.hid h
  have HB := Lib.hid (Below.refl w.heap.size w)
  clear h hx hy
  go_enter Tryd.func18, Tryd.ntmps18
  go_wp2_with (first | (go_at_call_of 25 (Value.int IntKind.i64 x); refine (HHx _ HA.out).out.mono ?_; rintro e w' ⟨rfl, rfl⟩) | (go_at_call_of 25 (Value.int IntKind.i64 y); refine (HHy _ HA.out).out.mono ?_; rintro e w' ⟨rfl, rfl⟩))
  go_ret2
  exact ⟨rfl, HB.out⟩
theorem nw_not {ns : List Nd} (hwf : WF ns) {x : Int} (hx : isT ns x) : NW ns ⟨3, wdt ns x, 0, x, 0, 0⟩ := by
  have hm := wdt_may hwf hx
  unfold isT at hx
  refine ⟨hm, ?_, ?_, ?_, ?_, ?_, ?_, ?_, ?_, ?_, ?_, ?_, ?_, ?_⟩ <;> simp [part, outV] <;> omega
theorem not_yes (w : World) (ab : Nat) (ns : List Nd) (foot : Nat → Prop) (x : Int) (h : Ar w ab ns foot) (hl : ns.length < 65536) (hx : isT ns x) :
    Calls Tryd.prog 21 #[ptr ab, .int .i64 x] w fun e w' => ∃ z : Int, e = .returned (.tuple #[.int .i64 z, .int .i64 0]) ∧ Got w ab ns foot w' (MadeP ns ⟨3, wdt ns x, 0, x, 0, 0⟩ z) := by
  have HMD := fun W (k : Ar W ab ns foot) => Lib.hid (made_any W ab ns foot _ k hl (nw_not h.wf hx) ⟨fun e => absurd e (show ¬ (3 : Int) = 16 by decide), fun e => absurd e (show ¬ (3 : Int) = 17 by decide), fun e => absurd e (show ¬ (3 : Int) = 18 by decide)⟩ (show (3 : Int) ≤ 3 by decide))
  have HHx := fun W (k : Ar W ab ns foot) => Lib.hid (has_yes W ab ns foot x k hx)
  have HWx := fun W (k : Ar W ab ns foot) => Lib.hid (width_any W ab ns foot x k)
  generalize wdt ns x = wd at *
  have HA := Lib.hid h
  have HA0 := Lib.hid h
  have HB := Lib.hid (Below.refl w.heap.size w)
  clear h hl hx
  go_enter Tryd.func21, Tryd.ntmps21
  go_wp2_with (first | (go_at_call_of 25 (Value.int IntKind.i64 x); refine (HHx _ HA.out).out.mono ?_; rintro e w' ⟨rfl, rfl⟩) | (go_at_call_of 14 (Value.int IntKind.i64 x); refine (HWx _ HA.out).out.mono ?_; rintro e W1 ⟨rfl, hb⟩; have HB := Lib.hid (HB.out.trans (hb.mono HB.out.size)); have HA := Lib.hid (HA.out.below hb); clear hb) | (go_at_call 38; refine (HMD _ HA.out).out.mono ?_; rintro e W2 ⟨z, rfl, hg⟩; have HG := Lib.hid (Got.behind HB.out hg); clear hg))
  go_ret2
  exact ⟨z, rfl, HG.out⟩
theorem not_none (w : World) (ab : Nat) (ns : List Nd) (foot : Nat → Prop) (x : Int) (h : Ar w ab ns foot) (hx : ¬ isT ns x) :
    Calls Tryd.prog 21 #[ptr ab, .int .i64 x] w fun e w' => e = ERR 1 ∧ Below w.heap.size w w' := by
  have HHx := fun W (k : Ar W ab ns foot) => Lib.hid (has_no W ab ns foot x k hx)
  have HA := Lib.hid h
  have HA0 := Lib.hid h
  have HB := Lib.hid (Below.refl w.heap.size w)
  clear h hx
  go_enter Tryd.func21, Tryd.ntmps21
  go_wp2_with (first | (go_at_call_of 25 (Value.int IntKind.i64 x); refine (HHx _ HA.out).out.mono ?_; rintro e w' ⟨rfl, rfl⟩))
  go_ret2
  exact ⟨rfl, HB.out⟩

/-! ### Ite -/
theorem nw_ite {ns : List Nd} (hwf : WF ns) {c x y : Int} (hc : isT ns c) (hx : isT ns x) (hy : isT ns y) (hw1 : wdt ns c = 1) (hw : wdt ns y = wdt ns x) : NW ns ⟨16, wdt ns x, 0, c, x, y⟩ := by
  have hm := wdt_may hwf hx
  unfold isT at hx hy hc
  refine ⟨hm, ?_, ?_, ?_, ?_, ?_, ?_, ?_, ?_, ?_, ?_, ?_, ?_, ?_⟩ <;> simp [part] <;> omega
structure IteP (ns : List Nd) (c x y z : Int) (ns' : List Nd) : Prop where
  t : isT ns' z
  w : wdt ns' z = wdt ns x
  v : ∀ env, V ns' env z = if V ns env c = 1 then V ns env x else V ns env y
  n : NV ns ns'
  e : isC ns c → ns' = ns ∧ z = if V ns [] c = 1 then x else y
  k : ¬ isC ns c → MadeP ns ⟨16, wdt ns x, 0, c, x, y⟩ z ns'
theorem ite_made {ns ns' : List Nd} {c x y z : Int} (hc : ¬ isC ns c) (h : MadeP ns ⟨16, wdt ns x, 0, c, x, y⟩ z ns') : IteP ns c x y z ns' := ⟨h.t, h.w, (fun env => by rw [h.v]; unfold nv; simp), h.n, fun k => absurd k hc, fun _ => h⟩
theorem ite_yes (w : World) (ab : Nat) (ns : List Nd) (foot : Nat → Prop) (c x y : Int) (h : Ar w ab ns foot) (hl : ns.length < 65536) (hc : isT ns c) (hx : isT ns x) (hy : isT ns y) (hw1 : wdt ns c = 1) (hw : wdt ns y = wdt ns x) :
    Calls Tryd.prog 22 #[ptr ab, .int .i64 c, .int .i64 x, .int .i64 y] w fun e w' => ∃ z : Int, e = .returned (.tuple #[.int .i64 z, .int .i64 0]) ∧ Got w ab ns foot w' (IteP ns c x y z) := by
  have HMD := fun (hnc : ¬ isC ns c) W (k : Ar W ab ns foot) => Lib.hid (made_any W ab ns foot _ k hl (nw_ite h.wf hc hx hy hw1 hw) ⟨fun _ => hnc, fun e => absurd e (show ¬ (16 : Int) = 17 by decide), fun e => absurd e (show ¬ (16 : Int) = 18 by decide)⟩ (show (3 : Int) ≤ 16 by decide))
  have HHc := fun W (k : Ar W ab ns foot) => Lib.hid (has_yes W ab ns foot c k hc)
  have HHx := fun W (k : Ar W ab ns foot) => Lib.hid (has_yes W ab ns foot x k hx)
  have HHy := fun W (k : Ar W ab ns foot) => Lib.hid (has_yes W ab ns foot y k hy)
  have HWc := fun W (k : Ar W ab ns foot) => Lib.hid (width_any W ab ns foot c k)
  have HWx := fun W (k : Ar W ab ns foot) => Lib.hid (width_any W ab ns foot x k)
  have HWy := fun W (k : Ar W ab ns foot) => Lib.hid (width_any W ab ns foot y k)
  rw [hw] at HWy
  rw [hw1] at HWc
  have HT := Lib.hid (And.intro hx hy)
  have HWW := Lib.hid hw
  have HWF := Lib.hid h.wf
  have HA := Lib.hid h
  have HA0 := Lib.hid h
  have HB := Lib.hid (Below.refl w.heap.size w)
  by_cases hk : isC ns c
  · obtain ⟨m, hm, ho⟩ := hk
    have HK := fun W (k : Ar W ab ns foot) => Lib.hid (known_yes W ab ns foot c m k hm ho)
    have HV := fun env => Lib.hid (V_const h.wf env hm ho)
    have HIC : Hid (isC ns c) := ⟨m, hm, ho⟩
    clear HMD
    by_cases h1 : m.val = 1
    · have h1' : (m.val == 1) = true := by simpa using h1
      have HV1 := Lib.hid h1
      clear h hl hc hx hy hw hw1 hm ho h1
      generalize hwd : wdt ns x = wd at HWx HWy
      have HWD := Lib.hid hwd
      clear hwd
      go_enter Tryd.func22, Tryd.ntmps22
      go_wp2_with (first | (go_at_call_of 25 (Value.int IntKind.i64 c); refine (HHc _ HA.out).out.mono ?_; rintro e w' ⟨rfl, rfl⟩) | (go_at_call_of 25 (Value.int IntKind.i64 x); refine (HHx _ HA.out).out.mono ?_; rintro e w' ⟨rfl, rfl⟩) | (go_at_call_of 25 (Value.int IntKind.i64 y); refine (HHy _ HA.out).out.mono ?_; rintro e w' ⟨rfl, rfl⟩) | (go_at_call_of 14 (Value.int IntKind.i64 c); refine (HWc _ HA.out).out.mono ?_; rintro e W1 ⟨rfl, hb⟩; have HB := Lib.hid (HB.out.trans (hb.mono HB.out.size)); have HA := Lib.hid (HA.out.below hb); clear hb) | (go_at_call_of 14 (Value.int IntKind.i64 x); refine (HWx _ HA.out).out.mono ?_; rintro e W1 ⟨rfl, hb⟩; have HB := Lib.hid (HB.out.trans (hb.mono HB.out.size)); have HA := Lib.hid (HA.out.below hb); clear hb) | (go_at_call_of 14 (Value.int IntKind.i64 y); refine (HWy _ HA.out).out.mono ?_; rintro e W1 ⟨rfl, hb⟩; have HB := Lib.hid (HB.out.trans (hb.mono HB.out.size)); have HA := Lib.hid (HA.out.below hb); clear hb) | (go_at_call 15; refine (HK _ HA.out).out.mono ?_; rintro e W1 ⟨rfl, hb⟩; have HB := Lib.hid (HB.out.trans (hb.mono HB.out.size)); have HA := Lib.hid (HA.out.below hb); clear hb))
      go_ret2
      exact ⟨x, rfl, ns, foot, Step.below HA0.out HB.out, ⟨HT.out.1, rfl, (fun env => by rw [(HV env).out, HV1.out]; simp), NV.refl _, fun _ => ⟨rfl, by rw [(HV []).out, HV1.out]; rfl⟩, fun k => absurd HIC.out k⟩⟩
    · have h1' : (m.val == 1) = false := by simpa using h1
      have HV1 := Lib.hid h1
      clear h hl hc hx hy hw hw1 hm ho h1
      generalize hwd : wdt ns x = wd at HWx HWy
      have HWD := Lib.hid hwd
      clear hwd
      go_enter Tryd.func22, Tryd.ntmps22
      go_wp2_with (first | (go_at_call_of 25 (Value.int IntKind.i64 c); refine (HHc _ HA.out).out.mono ?_; rintro e w' ⟨rfl, rfl⟩) | (go_at_call_of 25 (Value.int IntKind.i64 x); refine (HHx _ HA.out).out.mono ?_; rintro e w' ⟨rfl, rfl⟩) | (go_at_call_of 25 (Value.int IntKind.i64 y); refine (HHy _ HA.out).out.mono ?_; rintro e w' ⟨rfl, rfl⟩) | (go_at_call_of 14 (Value.int IntKind.i64 c); refine (HWc _ HA.out).out.mono ?_; rintro e W1 ⟨rfl, hb⟩; have HB := Lib.hid (HB.out.trans (hb.mono HB.out.size)); have HA := Lib.hid (HA.out.below hb); clear hb) | (go_at_call_of 14 (Value.int IntKind.i64 x); refine (HWx _ HA.out).out.mono ?_; rintro e W1 ⟨rfl, hb⟩; have HB := Lib.hid (HB.out.trans (hb.mono HB.out.size)); have HA := Lib.hid (HA.out.below hb); clear hb) | (go_at_call_of 14 (Value.int IntKind.i64 y); refine (HWy _ HA.out).out.mono ?_; rintro e W1 ⟨rfl, hb⟩; have HB := Lib.hid (HB.out.trans (hb.mono HB.out.size)); have HA := Lib.hid (HA.out.below hb); clear hb) | (go_at_call 15; refine (HK _ HA.out).out.mono ?_; rintro e W1 ⟨rfl, hb⟩; have HB := Lib.hid (HB.out.trans (hb.mono HB.out.size)); have HA := Lib.hid (HA.out.below hb); clear hb))
      go_ret2
      exact ⟨y, rfl, ns, foot, Step.below HA0.out HB.out, ⟨HT.out.2, HWW.out, (fun env => by rw [(HV env).out, if_neg HV1.out]), NV.refl _, fun _ => ⟨rfl, by rw [(HV []).out, if_neg HV1.out]⟩, fun k => absurd HIC.out k⟩⟩
  · have HK := fun W (k : Ar W ab ns foot) => Lib.hid (known_no W ab ns foot c k hk)
    have HIM := Lib.hid (fun (ns' : List Nd) (z : Int) (k : MadeP ns ⟨16, wdt ns x, 0, c, x, y⟩ z ns') => ite_made hk k)
    have HMD := HMD hk
    clear h hl hc hx hy hw hw1 hk
    generalize wdt ns x = wd at HWx HWy HMD HIM
    go_enter Tryd.func22, Tryd.ntmps22
    go_wp2_with (first | (go_at_call_of 25 (Value.int IntKind.i64 c); refine (HHc _ HA.out).out.mono ?_; rintro e w' ⟨rfl, rfl⟩) | (go_at_call_of 25 (Value.int IntKind.i64 x); refine (HHx _ HA.out).out.mono ?_; rintro e w' ⟨rfl, rfl⟩) | (go_at_call_of 25 (Value.int IntKind.i64 y); refine (HHy _ HA.out).out.mono ?_; rintro e w' ⟨rfl, rfl⟩) | (go_at_call_of 14 (Value.int IntKind.i64 c); refine (HWc _ HA.out).out.mono ?_; rintro e W1 ⟨rfl, hb⟩; have HB := Lib.hid (HB.out.trans (hb.mono HB.out.size)); have HA := Lib.hid (HA.out.below hb); clear hb) | (go_at_call_of 14 (Value.int IntKind.i64 x); refine (HWx _ HA.out).out.mono ?_; rintro e W1 ⟨rfl, hb⟩; have HB := Lib.hid (HB.out.trans (hb.mono HB.out.size)); have HA := Lib.hid (HA.out.below hb); clear hb) | (go_at_call_of 14 (Value.int IntKind.i64 y); refine (HWy _ HA.out).out.mono ?_; rintro e W1 ⟨rfl, hb⟩; have HB := Lib.hid (HB.out.trans (hb.mono HB.out.size)); have HA := Lib.hid (HA.out.below hb); clear hb) | (go_at_call 15; refine (HK _ HA.out).out.mono ?_; rintro e W1 ⟨rfl, hb⟩; have HB := Lib.hid (HB.out.trans (hb.mono HB.out.size)); have HA := Lib.hid (HA.out.below hb); clear hb) | (go_at_call 38; refine (HMD _ HA.out).out.mono ?_; rintro e W2 ⟨z, rfl, hg⟩; have HG := Lib.hid (Got.behind HB.out hg); clear hg))
    go_ret2
    obtain ⟨ns', foot', hst, hm⟩ := HG.out
    exact ⟨z, rfl, ns', foot', hst, HIM.out ns' z hm⟩
theorem ite_width (w : World) (ab : Nat) (ns : List Nd) (foot : Nat → Prop) (c x y : Int) (h : Ar w ab ns foot) (hc : isT ns c) (hx : isT ns x) (hy : isT ns y) (hw : wdt ns c ≠ 1 ∨ wdt ns x ≠ wdt ns y) :
    Calls Tryd.prog 22 #[ptr ab, .int .i64 c, .int .i64 x, .int .i64 y] w fun e w' => e = ERR 2 ∧ Below w.heap.size w w' := by
  have HHc := fun W (k : Ar W ab ns foot) => Lib.hid (has_yes W ab ns foot c k hc)
  have HHx := fun W (k : Ar W ab ns foot) => Lib.hid (has_yes W ab ns foot x k hx)
  have HHy := fun W (k : Ar W ab ns foot) => Lib.hid (has_yes W ab ns foot y k hy)
  have HWc := fun W (k : Ar W ab ns foot) => Lib.hid (width_any W ab ns foot c k)
  have HWx := fun W (k : Ar W ab ns foot) => Lib.hid (width_any W ab ns foot x k)
  have HWy := fun W (k : Ar W ab ns foot) => Lib.hid (width_any W ab ns foot y k)
  have HA := Lib.hid h
  have HA0 := Lib.hid h
  have HB := Lib.hid (Below.refl w.heap.size w)
  generalize wdt ns x = wd at *
  generalize wdt ns y = wy at *
  generalize wdt ns c = wc_ at *
  by_cases h1 : wc_ = 1
  · subst h1
    have hne : (wd != wy) = true := by simpa using hw
    clear h hc hx hy hw
    go_enter Tryd.func22, Tryd.ntmps22
    go_wp2_with (first | (go_at_call_of 25 (Value.int IntKind.i64 c); refine (HHc _ HA.out).out.mono ?_; rintro e w' ⟨rfl, rfl⟩) | (go_at_call_of 25 (Value.int IntKind.i64 x); refine (HHx _ HA.out).out.mono ?_; rintro e w' ⟨rfl, rfl⟩) | (go_at_call_of 25 (Value.int IntKind.i64 y); refine (HHy _ HA.out).out.mono ?_; rintro e w' ⟨rfl, rfl⟩) | (go_at_call_of 14 (Value.int IntKind.i64 c); refine (HWc _ HA.out).out.mono ?_; rintro e W1 ⟨rfl, hb⟩; have HB := Lib.hid (HB.out.trans (hb.mono HB.out.size)); have HA := Lib.hid (HA.out.below hb); clear hb) | (go_at_call_of 14 (Value.int IntKind.i64 x); refine (HWx _ HA.out).out.mono ?_; rintro e W1 ⟨rfl, hb⟩; have HB := Lib.hid (HB.out.trans (hb.mono HB.out.size)); have HA := Lib.hid (HA.out.below hb); clear hb) | (go_at_call_of 14 (Value.int IntKind.i64 y); refine (HWy _ HA.out).out.mono ?_; rintro e W1 ⟨rfl, hb⟩; have HB := Lib.hid (HB.out.trans (hb.mono HB.out.size)); have HA := Lib.hid (HA.out.below hb); clear hb))
    go_ret2
    exact ⟨rfl, HB.out⟩
  · have hne : (wc_ != 1) = true := by simpa using h1
    clear h hc hx hy hw h1
    go_enter Tryd.func22, Tryd.ntmps22
    go_wp2_with (first | (go_at_call_of 25 (Value.int IntKind.i64 c); refine (HHc _ HA.out).out.mono ?_; rintro e w' ⟨rfl, rfl⟩) | (go_at_call_of 25 (Value.int IntKind.i64 x); refine (HHx _ HA.out).out.mono ?_; rintro e w' ⟨rfl, rfl⟩) | (go_at_call_of 25 (Value.int IntKind.i64 y); refine (HHy _ HA.out).out.mono ?_; rintro e w' ⟨rfl, rfl⟩) | (go_at_call_of 14 (Value.int IntKind.i64 c); refine (HWc _ HA.out).out.mono ?_; rintro e W1 ⟨rfl, hb⟩; have HB := Lib.hid (HB.out.trans (hb.mono HB.out.size)); have HA := Lib.hid (HA.out.below hb); clear hb) | (go_at_call_of 14 (Value.int IntKind.i64 x); refine (HWx _ HA.out).out.mono ?_; rintro e W1 ⟨rfl, hb⟩; have HB := Lib.hid (HB.out.trans (hb.mono HB.out.size)); have HA := Lib.hid (HA.out.below hb); clear hb) | (go_at_call_of 14 (Value.int IntKind.i64 y); refine (HWy _ HA.out).out.mono ?_; rintro e W1 ⟨rfl, hb⟩; have HB := Lib.hid (HB.out.trans (hb.mono HB.out.size)); have HA := Lib.hid (HA.out.below hb); clear hb))
    go_ret2
    exact ⟨rfl, HB.out⟩

/-! ### Ext and Cut -/
structure ResP (ns : List Nd) (wd x z : Int) (ns' : List Nd) : Prop where
  t : isT ns' z
  w : wdt ns' z = wd
  v : ∀ env, V ns' env z = low wd (V ns env x)
  i : Iv ns' z = Iv ns x
  n : NV ns ns'
theorem nw_res {ns : List Nd} {op wd x : Int} (ho : op = 17 ∨ op = 18) (hw : mayw wd) (hx : isT ns x) : NW ns ⟨op, wd, 0, x, 0, 0⟩ := by
  unfold isT at hx
  refine ⟨hw, ?_, ?_, ?_, ?_, ?_, ?_, ?_, ?_, ?_, ?_, ?_, ?_, ?_⟩ <;> simp [part] <;> omega
theorem res_made {ns ns' : List Nd} {op wd x z : Int} (ho : op = 17 ∨ op = 18) (h : MadeP ns ⟨op, wd, 0, x, 0, 0⟩ z ns') : ResP ns wd x z ns' := by
  refine ⟨h.t, h.w, fun env => ?_, ?_, h.n⟩
  · rw [h.v]; unfold nv; simp only
    rw [if_neg (by omega), if_neg (by omega), if_neg (by omega), if_pos ho]
  · rw [h.i]; unfold niv; simp only
    rw [if_neg (by omega), Iv_none (x := 0) (by unfold isT; omega)]; simp
structure ResX (ns : List Nd) (op wd x z : Int) (ns' : List Nd) : Prop extends ResP ns wd x z ns' where
  e : wd = wdt ns x → ns' = ns ∧ z = x
  k : wd ≠ wdt ns x → MadeP ns ⟨op, wd, 0, x, 0, 0⟩ z ns'
theorem res_same {ns : List Nd} (hwf : WF ns) {x : Int} (hx : isT ns x) : ResP ns (wdt ns x) x x ns :=
  ⟨hx, rfl, fun env => by have := V_val hwf env hx; exact (Int.emod_eq_of_lt this.1 this.2.1).symm, rfl, NV.refl _⟩
theorem resized_yes (w : World) (ab : Nat) (ns : List Nd) (foot : Nat → Prop) (op wd x : Int) (h : Ar w ab ns foot) (hl : ns.length < 65536) (ho : op = 17 ∨ op = 18) (hw : mayw wd) (hx : isT ns x) (ho1 : op = 17 → wdt ns x ≤ wd) (ho2 : op = 18 → wd ≤ wdt ns x) :
    Calls Tryd.prog 40 #[ptr ab, .int .i64 op, .int .i64 wd, .int .i64 x] w fun e w' => ∃ z : Int, e = .returned (.tuple #[.int .i64 z, .int .i64 0]) ∧ Got w ab ns foot w' (ResX ns op wd x z) := by
  have HHx := fun W (k : Ar W ab ns foot) => Lib.hid (has_yes W ab ns foot x k hx)
  have HWx := fun W (k : Ar W ab ns foot) => Lib.hid (width_any W ab ns foot x k)
  have HA := Lib.hid h
  have HA0 := Lib.hid h
  have HB := Lib.hid (Below.refl w.heap.size w)
  have HMY := fun W => Lib.hid (may_yes wd W hw)
  by_cases he : wd = wdt ns x
  · have HR : Hid (ResX ns op wd x x ns) := by
      have := res_same h.wf hx
      rw [← he] at this
      exact ⟨this, fun _ => ⟨rfl, rfl⟩, fun k => absurd he k⟩
    rw [← he] at HWx
    clear h hl hw hx he ho1 ho2
    go_enter Tryd.func40, Tryd.ntmps40
    go_wp2_with (first | (go_at_call_of 25 (Value.int IntKind.i64 x); refine (HHx _ HA.out).out.mono ?_; rintro e w' ⟨rfl, rfl⟩) | (go_at_call 35; refine (HMY _).out.mono ?_; rintro e w' ⟨rfl, rfl⟩) | (go_at_call_of 14 (Value.int IntKind.i64 x); refine (HWx _ HA.out).out.mono ?_; rintro e W1 ⟨rfl, hb⟩; have HB := Lib.hid (HB.out.trans (hb.mono HB.out.size)); have HA := Lib.hid (HA.out.below hb); clear hb))
    go_ret2
    exact ⟨x, rfl, ns, foot, Step.below HA0.out HB.out, HR.out⟩
  · have HMD := fun W (k : Ar W ab ns foot) => Lib.hid (made_any W ab ns foot _ k hl (nw_res ho hw hx) ⟨fun e => absurd e (show ¬ op = 16 by omega), fun e => (by have := ho1 e; show wdt ns x < wd; omega), fun e => (by have := ho2 e; show wd < wdt ns x; omega)⟩ (show (3 : Int) ≤ op by omega))
    have HO := Lib.hid (fun (ns' : List Nd) (z : Int) (k : MadeP ns ⟨op, wd, 0, x, 0, 0⟩ z ns') => (show ResX ns op wd x z ns' from ⟨res_made ho k, fun e => absurd e he, fun _ => k⟩))
    have hne : (wd == wdt ns x) = false := by simpa using he
    generalize wdt ns x = wy at HWx hne
    clear h hl hw hx he ho ho1 ho2
    go_enter Tryd.func40, Tryd.ntmps40
    go_wp2_with (first | (go_at_call_of 25 (Value.int IntKind.i64 x); refine (HHx _ HA.out).out.mono ?_; rintro e w' ⟨rfl, rfl⟩) | (go_at_call 35; refine (HMY _).out.mono ?_; rintro e w' ⟨rfl, rfl⟩) | (go_at_call_of 14 (Value.int IntKind.i64 x); refine (HWx _ HA.out).out.mono ?_; rintro e W1 ⟨rfl, hb⟩; have HB := Lib.hid (HB.out.trans (hb.mono HB.out.size)); have HA := Lib.hid (HA.out.below hb); clear hb) | (go_at_call 38; refine (HMD _ HA.out).out.mono ?_; rintro e W2 ⟨z, rfl, hg⟩; have HG := Lib.hid (Got.behind HB.out hg); clear hg))
    go_ret2
    obtain ⟨ns', foot', hst, hm⟩ := HG.out
    exact ⟨z, rfl, ns', foot', hst, HO.out ns' z hm⟩
theorem resized_no (w : World) (ab : Nat) (ns : List Nd) (foot : Nat → Prop) (op wd x : Int) (h : Ar w ab ns foot) (hw : ¬ mayw wd) (hx : isT ns x) :
    Calls Tryd.prog 40 #[ptr ab, .int .i64 op, .int .i64 wd, .int .i64 x] w fun e w' => e = ERR 2 ∧ Below w.heap.size w w' := by
  have HHx := fun W (k : Ar W ab ns foot) => Lib.hid (has_yes W ab ns foot x k hx)
  have HA := Lib.hid h
  have HA0 := Lib.hid h
  have HB := Lib.hid (Below.refl w.heap.size w)
  have HMY := fun W => Lib.hid (may_no wd W hw)
  clear h hw hx
  go_enter Tryd.func40, Tryd.ntmps40
  go_wp2_with (first | (go_at_call_of 25 (Value.int IntKind.i64 x); refine (HHx _ HA.out).out.mono ?_; rintro e w' ⟨rfl, rfl⟩) | (go_at_call 35; refine (HMY _).out.mono ?_; rintro e w' ⟨rfl, rfl⟩))
  go_ret2
  exact ⟨rfl, HB.out⟩
theorem ext_yes (w : World) (ab : Nat) (ns : List Nd) (foot : Nat → Prop) (wd x : Int) (h : Ar w ab ns foot) (hl : ns.length < 65536) (hw : mayw wd) (hx : isT ns x) (hc : wdt ns x ≤ wd) :
    Calls Tryd.prog 23 #[ptr ab, .int .i64 wd, .int .i64 x] w fun e w' => ∃ z : Int, e = .returned (.tuple #[.int .i64 z, .int .i64 0]) ∧ Got w ab ns foot w' (ResX ns 17 wd x z) := by
  have HHx := fun W (k : Ar W ab ns foot) => Lib.hid (has_yes W ab ns foot x k hx)
  have HWx := fun W (k : Ar W ab ns foot) => Lib.hid (width_any W ab ns foot x k)
  have HA := Lib.hid h
  have HA0 := Lib.hid h
  have HB := Lib.hid (Below.refl w.heap.size w)
  have HRS := fun W (k : Ar W ab ns foot) => Lib.hid (resized_yes W ab ns foot 17 wd x k hl (by omega) hw hx (fun _ => hc) (fun e => absurd e (by decide)))
  generalize wdt ns x = wy at HWx hc
  clear h hl hw hx
  go_enter Tryd.func23, Tryd.ntmps23
  go_wp2_with (first | (go_at_call_of 25 (Value.int IntKind.i64 x); refine (HHx _ HA.out).out.mono ?_; rintro e w' ⟨rfl, rfl⟩) | (go_at_call_of 14 (Value.int IntKind.i64 x); refine (HWx _ HA.out).out.mono ?_; rintro e W1 ⟨rfl, hb⟩; have HB := Lib.hid (HB.out.trans (hb.mono HB.out.size)); have HA := Lib.hid (HA.out.below hb); clear hb) | (go_at_call 40; refine (HRS _ HA.out).out.mono ?_; rintro e W2 ⟨z, rfl, hg⟩; have HG := Lib.hid (Got.behind HB.out hg); clear hg))
  go_ret2
  exact ⟨z, rfl, HG.out⟩
theorem ext_no (w : World) (ab : Nat) (ns : List Nd) (foot : Nat → Prop) (wd x : Int) (h : Ar w ab ns foot) (hx : isT ns x) (hb : ¬ mayw wd ∨ wd < wdt ns x) :
    Calls Tryd.prog 23 #[ptr ab, .int .i64 wd, .int .i64 x] w fun e w' => e = ERR 2 ∧ Below w.heap.size w w' := by
  have HHx := fun W (k : Ar W ab ns foot) => Lib.hid (has_yes W ab ns foot x k hx)
  have HWx := fun W (k : Ar W ab ns foot) => Lib.hid (width_any W ab ns foot x k)
  have HA := Lib.hid h
  have HA0 := Lib.hid h
  have HB := Lib.hid (Below.refl w.heap.size w)
  by_cases hc : wd < wdt ns x
  · generalize wdt ns x = wy at *
    clear h hx hb
    go_enter Tryd.func23, Tryd.ntmps23
    go_wp2_with (first | (go_at_call_of 25 (Value.int IntKind.i64 x); refine (HHx _ HA.out).out.mono ?_; rintro e w' ⟨rfl, rfl⟩) | (go_at_call_of 14 (Value.int IntKind.i64 x); refine (HWx _ HA.out).out.mono ?_; rintro e W1 ⟨rfl, hb⟩; have HB := Lib.hid (HB.out.trans (hb.mono HB.out.size)); have HA := Lib.hid (HA.out.below hb); clear hb))
    go_ret2
    exact ⟨rfl, HB.out⟩
  · have HRS := fun W (k : Ar W ab ns foot) => Lib.hid (resized_no W ab ns foot 17 wd x k (hb.resolve_right hc) hx)
    generalize wdt ns x = wy at *
    have hc' : wy ≤ wd := by omega
    clear h hx hb hc
    go_enter Tryd.func23, Tryd.ntmps23
    go_wp2_with (first | (go_at_call_of 25 (Value.int IntKind.i64 x); refine (HHx _ HA.out).out.mono ?_; rintro e w' ⟨rfl, rfl⟩) | (go_at_call_of 14 (Value.int IntKind.i64 x); refine (HWx _ HA.out).out.mono ?_; rintro e W1 ⟨rfl, hb⟩; have HB := Lib.hid (HB.out.trans (hb.mono HB.out.size)); have HA := Lib.hid (HA.out.below hb); clear hb) | (go_at_call 40; refine (HRS _ HA.out).out.mono ?_; rintro e W2 ⟨rfl, hb⟩; have HB := Lib.hid (HB.out.trans (hb.mono HB.out.size)); clear hb))
    go_ret2
    exact ⟨rfl, HB.out⟩
theorem cut_yes (w : World) (ab : Nat) (ns : List Nd) (foot : Nat → Prop) (wd x : Int) (h : Ar w ab ns foot) (hl : ns.length < 65536) (hw : mayw wd) (hx : isT ns x) (hc : wd ≤ wdt ns x) :
    Calls Tryd.prog 24 #[ptr ab, .int .i64 wd, .int .i64 x] w fun e w' => ∃ z : Int, e = .returned (.tuple #[.int .i64 z, .int .i64 0]) ∧ Got w ab ns foot w' (ResX ns 18 wd x z) := by
  have HHx := fun W (k : Ar W ab ns foot) => Lib.hid (has_yes W ab ns foot x k hx)
  have HWx := fun W (k : Ar W ab ns foot) => Lib.hid (width_any W ab ns foot x k)
  have HA := Lib.hid h
  have HA0 := Lib.hid h
  have HB := Lib.hid (Below.refl w.heap.size w)
  have HRS := fun W (k : Ar W ab ns foot) => Lib.hid (resized_yes W ab ns foot 18 wd x k hl (by omega) hw hx (fun e => absurd e (by decide)) (fun _ => hc))
  generalize wdt ns x = wy at HWx hc
  clear h hl hw hx
  go_enter Tryd.func24, Tryd.ntmps24
  go_wp2_with (first | (go_at_call_of 25 (Value.int IntKind.i64 x); refine (HHx _ HA.out).out.mono ?_; rintro e w' ⟨rfl, rfl⟩) | (go_at_call_of 14 (Value.int IntKind.i64 x); refine (HWx _ HA.out).out.mono ?_; rintro e W1 ⟨rfl, hb⟩; have HB := Lib.hid (HB.out.trans (hb.mono HB.out.size)); have HA := Lib.hid (HA.out.below hb); clear hb) | (go_at_call 40; refine (HRS _ HA.out).out.mono ?_; rintro e W2 ⟨z, rfl, hg⟩; have HG := Lib.hid (Got.behind HB.out hg); clear hg))
  go_ret2
  exact ⟨z, rfl, HG.out⟩
theorem cut_no (w : World) (ab : Nat) (ns : List Nd) (foot : Nat → Prop) (wd x : Int) (h : Ar w ab ns foot) (hx : isT ns x) (hb : ¬ mayw wd ∨ wdt ns x < wd) :
    Calls Tryd.prog 24 #[ptr ab, .int .i64 wd, .int .i64 x] w fun e w' => e = ERR 2 ∧ Below w.heap.size w w' := by
  have HHx := fun W (k : Ar W ab ns foot) => Lib.hid (has_yes W ab ns foot x k hx)
  have HWx := fun W (k : Ar W ab ns foot) => Lib.hid (width_any W ab ns foot x k)
  have HA := Lib.hid h
  have HA0 := Lib.hid h
  have HB := Lib.hid (Below.refl w.heap.size w)
  by_cases hc : wdt ns x < wd
  · generalize wdt ns x = wy at *
    clear h hx hb
    go_enter Tryd.func24, Tryd.ntmps24
    go_wp2_with (first | (go_at_call_of 25 (Value.int IntKind.i64 x); refine (HHx _ HA.out).out.mono ?_; rintro e w' ⟨rfl, rfl⟩) | (go_at_call_of 14 (Value.int IntKind.i64 x); refine (HWx _ HA.out).out.mono ?_; rintro e W1 ⟨rfl, hb⟩; have HB := Lib.hid (HB.out.trans (hb.mono HB.out.size)); have HA := Lib.hid (HA.out.below hb); clear hb))
    go_ret2
    exact ⟨rfl, HB.out⟩
  · have HRS := fun W (k : Ar W ab ns foot) => Lib.hid (resized_no W ab ns foot 18 wd x k (hb.resolve_right hc) hx)
    generalize wdt ns x = wy at *
    have hc' : wd ≤ wy := by omega
    clear h hx hb hc
    go_enter Tryd.func24, Tryd.ntmps24
    go_wp2_with (first | (go_at_call_of 25 (Value.int IntKind.i64 x); refine (HHx _ HA.out).out.mono ?_; rintro e w' ⟨rfl, rfl⟩) | (go_at_call_of 14 (Value.int IntKind.i64 x); refine (HWx _ HA.out).out.mono ?_; rintro e W1 ⟨rfl, hb⟩; have HB := Lib.hid (HB.out.trans (hb.mono HB.out.size)); have HA := Lib.hid (HA.out.below hb); clear hb) | (go_at_call 40; refine (HRS _ HA.out).out.mono ?_; rintro e W2 ⟨rfl, hb⟩; have HB := Lib.hid (HB.out.trans (hb.mono HB.out.size)); clear hb))
    go_ret2
    exact ⟨rfl, HB.out⟩
end Go.Proofs.YtgbmiphaabeodaaDoor
