/-
  All and Any of package fix, of terms of width 1 that are no numbers and stand once.
-/
import Derived.Test.YtchbdnifcckloaaDoorFixJ2
namespace Go.Proofs.YtchbdnifcckloaaDoor
open Go.ChangeShapes Go.WideShapes Go.ChangeAt Go.RowKit
set_option linter.unusedVariables false
attribute [local go_sem ↓] Go.wp_at_zero Go.wp_at_succ

/-- What joined answers. -/
structure JoP (ns ns' : List Nd) (op z0 : Int) (rest : List Int) (y : Int) : Prop where
  t : isT ns' y
  w1 : wdt ns' y = 1
  v : ∀ env, V ns' env y = jv op (V ns env) z0 rest
  r : ∀ z, z = z0 ∨ z ∈ rest → Reach ns' y z
def JoE (W0 w : World) (ab : Nat) (ns : List Nd) (Q : Nat → Prop) (op z0 : Int) (rest : List Int) (e : Ending) (w' : World) : Prop :=
  ∃ (y : Int) (ns' : List Nd), e = .returned (.tuple #[.int .i64 y, .int .i64 0]) ∧ NxtK rest.length W0 w ab ns Q w' ns' ∧ JoP ns ns' op z0 rest y
theorem JR.post {w w' : World} {tb : Nat} {ns ns' : List Nd} {foot foot' : Nat → Prop} {op z0 y : Int} {rest : List Int} (h : JR w w' tb ns ns' foot foot' op z0 rest rest.length y) : JoP ns ns' op z0 rest y :=
  ⟨h.t, h.w1, fun env => by have := h.v env; rwa [List.take_length] at this, fun z hz => h.r z (by rw [List.take_length]; exact hz)⟩
theorem nums_t {w : World} {base g n cap : Nat} {zs : List Int} (h : w.ownsRow base 33 1 (.slice (some ⟨g, 0, none⟩) n cap) zs.length (tcells zs)) (hw : ∀ z ∈ zs, (Lit.int .i64 z).wf = true) : NumsAt .i64 w (some ⟨g, 0, none⟩) zs := by
  rcases h.2 with ⟨e, _⟩ | ⟨g', cap', cur, e, _, hh, hn, hc, hsz, ht⟩
  · injection e with e; cases e
  · injection e with e1 e2 e3
    injection e1 with e1
    injection e1 with e1
    subst e1
    refine ⟨fun i v hv => ⟨_, rfl, ?_⟩, (fun a ha => by injection ha with ha; subst ha; exact lt_of_heap hh), hw⟩
    have hx : Has w g _ cur := hh
    have hi : i < zs.length := (List.getElem?_eq_some_iff.1 hv).1
    have : (tcells zs)[i]? = some (.int .i64 v) := by unfold tcells; rw [List.getElem?_map, hv]; rfl
    rw [show (⟨g, 0, none⟩ : Addr).add i = ⟨g, i, none⟩ from (by simp only [Addr.add]; simp; exact fun e => e.symm), hx.cell, ← this, ← ht, List.getElem?_take_of_lt (by omega)]
    simp
theorem NumsAt.set {kd : IntKind} {w : World} {g : Nat} {zs : List Int} (h : NumsAt kd w (some ⟨g, 0, none⟩) zs) {p : Addr} {u : Value} (hne : g ≠ p.block) : NumsAt kd (w.setCell p u) (some ⟨g, 0, none⟩) zs :=
  ⟨fun i z hz => by
    obtain ⟨a, ha, hc⟩ := h.get i z hz
    injection ha with ha; subst ha
    exact ⟨_, rfl, (World.cell?_of_block (set_other (by rw [add_block]; exact hne))).trans hc⟩, (fun a ha => by injection ha with ha; subst ha; simpa [World.setCell] using h.lt _ rfl), h.wf⟩
set_option maxHeartbeats 1600000 in
set_option maxRecDepth 100000 in
theorem joined_many (W0 w : World) (ab : Nat) (ns : List Nd) (Q : Nat → Prop) (op v z0 : Int) (rest : List Int) (A : Option Addr) (cap : Nat) (C : Cur W0 w ab ns Q) (hl : NumsAt .i64 w A (z0 :: rest)) (ho : op = 4 ∨ op = 5) (ht : ∀ z ∈ z0 :: rest, isT ns z ∧ wdt ns z = 1 ∧ ¬ isC ns z) (hd : (z0 :: rest).Nodup) (hsm : rest.length ≤ 59) (hroom : ns.length + rest.length < 65536) (hcap : rest.length + 1 ≤ cap) (hcap2 : cap ≤ 9223372036854775807) :
    Calls Tryd.prog 43 #[ptr ab, .int .i64 op, .int .u16 v, .slice A (rest.length + 1) cap] w (JoE W0 w ab ns Q op z0 rest) := by
  have hb0 : Below w.heap.size w ((w.alloc (.cells #[.int .i64 op] 3)).alloc (.cells #[.slice A (rest.length + 1) cap] 54)) := (((Below.refl _ _).alloc (Nat.le_refl _) _).alloc (by simp) _)
  have HB := Lib.hid hb0
  have HC := Lib.hid C
  have HT := Lib.hid ht
  have HD := Lib.hid hd
  have HWF := Lib.hid hl.wf
  have HTU := Lib.hid (truths_all W0 ((w.alloc (.cells #[.int .i64 op] 3)).alloc (.cells #[.slice A (rest.length + 1) cap] 54)) ab ns Q A (z0 :: rest) cap ((C.alloc _).alloc _) (hl.keep hb0) (fun z hz => (ht z hz).2.1) hcap hcap2)
  have HTE := Lib.hid (fun (W : World) (b : Below w.heap.size w W) => telling_all W0 W ab ns Q A (z0 :: rest) cap v (C.below b) (hl.keep b) (fun z hz => (ht z hz).2.2) hd (by simp; omega) hcap hcap2)
  have hop : Has ((w.alloc (.cells #[.int .i64 op] 3)).alloc (.cells #[.slice A (rest.length + 1) cap] 54)) w.heap.size 3 #[.int .i64 op] := (Has.new w 3 #[.int .i64 op]).same (alloc_other (by simp))
  have hli : Has ((w.alloc (.cells #[.int .i64 op] 3)).alloc (.cells #[.slice A (rest.length + 1) cap] 54)) (w.heap.size + 1) 54 #[.slice A (rest.length + 1) cap] := by
    have := Has.new (w.alloc (.cells #[.int .i64 op] 3)) 54 #[.slice A (rest.length + 1) cap]
    rwa [show (w.alloc (.cells #[.int .i64 op] 3)).heap.size = w.heap.size + 1 by simp] at this
  have q0 : ((w.alloc (.cells #[.int .i64 op] 3)).alloc (.cells #[.slice A (rest.length + 1) cap] 54)).cell? ⟨w.heap.size + 1, 0, none⟩ = some (.slice A (rest.length + 1) cap) := hli.cell 0
  have HOP := Lib.hid hop
  have HLI := Lib.hid hli
  have hmf : ∀ (fn : Fn) (first cap : Array Value) (w : World), (Instr.makeFunc fn first cap).run Tryd.prog w = .ok (.func fn first cap) w := fun _ _ _ _ => rfl
  clear C hl ht hd hop hli hb0
  go_enter Tryd.func43, Tryd.ntmps43
  go_wp2_with fail
  refine HTU.out.mono ?_
  rintro e w2 ⟨rfl, hb⟩
  have HOP := Lib.hid (HOP.out.same (hb.block _ HOP.out.lt))
  have HLI := Lib.hid (HLI.out.same (hb.block _ HLI.out.lt))
  have HB := Lib.hid (HB.out.trans (hb.mono HB.out.size))
  have q0 : w2.cell? ⟨w.heap.size + 1, 0, none⟩ = some (.slice A (rest.length + 1) cap) := HLI.out.cell 0
  have HW2 : Hid (w.heap.size + 1 < w2.heap.size) := HLI.out.lt
  clear hb HTU
  go_wp2_with fail
  refine (HTE.out w2 HB.out).mono ?_
  rintro e w3 ⟨l, rfl, hrow, hb⟩
  obtain ⟨g, lcap, hA, hg, hn1, hn2, _⟩ := rowi_at hrow (i := 0) (u := .int .i64 z0) (by simp [tcells])
  subst hA
  have hgl : w2.heap.size ≤ g := by
    rcases hrow.2 with ⟨e, _⟩ | ⟨g', c', cur, e, hge, _⟩
    · injection e with e; cases e
    · injection e with e _ _
      injection e with e
      injection e with e _
      omega
  have HOP := Lib.hid (HOP.out.same (hb.block _ HOP.out.lt))
  have HLI := Lib.hid (HLI.out.same (hb.block _ HLI.out.lt))
  have HB := Lib.hid (HB.out.trans (hb.mono HB.out.size))
  have HN3 := Lib.hid (nums_t hrow HWF.out)
  have HGL := Lib.hid hgl
  have HL2 := Lib.hid (HLI.out.lt)
  have q0 : w3.cell? ⟨w.heap.size + 1, 0, none⟩ = some (.slice A (rest.length + 1) cap) := HLI.out.cell 0
  have qf : ∀ i, w3.frozen? ⟨w.heap.size + 1, i, none⟩ = false := HLI.out.free
  have hlt3 : w.heap.size + 1 < w3.heap.size := HLI.out.lt
  unfold maxLen at hn2
  clear hrow hb HTE hgl
  go_wp2_with fail
  obtain ⟨foot, a, b, c, d⟩ := HC.out
  have HB4 : Hid (Below w.heap.size w (w3.setCell ⟨w.heap.size + 1, 0, none⟩ (.slice (some ⟨g, 0, none⟩) (rest.length + 1) lcap))) := HB.out.setCell (p := ⟨w.heap.size + 1, 0, none⟩) (by show w.heap.size ≤ w.heap.size + 1; omega) _
  have HS2 : Hid (w.heap.size + 1 < g) := by show w.heap.size + 1 < g; have := HGL.out; have := HW2.out; omega
  have HP4 : Hid ((w3.setCell ⟨w.heap.size + 1, 0, none⟩ (.slice (some ⟨g, 0, none⟩) (rest.length + 1) lcap)).cell? ⟨w.heap.size + 1, 0, none⟩ = some (.slice (some ⟨g, 0, none⟩) (rest.length + 1) lcap)) := ((HLI.out.put 0 _).cell 0).trans (by simp)
  have HQ4 : Hid ((w3.setCell ⟨w.heap.size + 1, 0, none⟩ (.slice (some ⟨g, 0, none⟩) (rest.length + 1) lcap)).cell? ⟨w.heap.size, 0, none⟩ = some (.int .i64 op)) := (HOP.out.same (set_other (p := ⟨w.heap.size + 1, 0, none⟩) (by simp))).cell 0
  have HN4 := Lib.hid (HN3.out.set (p := ⟨w.heap.size + 1, 0, none⟩) (u := .slice (some ⟨g, 0, none⟩) (rest.length + 1) lcap) (by have := HS2.out; simp; omega))
  have HJ := Lib.hid (join1_any (w3.setCell ⟨w.heap.size + 1, 0, none⟩ (.slice (some ⟨g, 0, none⟩) (rest.length + 1) lcap)) ab (w.heap.size + 1) w.heap.size lcap ns foot op z0 rest ⟨g, 0, none⟩ (a.below HB4.out) HP4.out HQ4.out (fun h => by have := a.lt _ h; omega) (fun h => by have := a.lt _ h; omega) (by simp [World.setCell]; omega) (by simp [World.setCell]; omega) (fun h => by have := a.lt _ h; have := HS2.out; simp at *; omega) HN4.out ho HT.out (by omega) (by simpa using hn1) (by omega))
  refine (whole_joined _ ab (w.heap.size + 1) w.heap.size ns foot _ _ (a.below HB4.out) (by omega) (by omega) (by omega) HJ.out).mono ?_
  rintro e w' ⟨y, rfl, ns', foot', hj⟩
  have HR := Lib.hid hj
  have HCD := Lib.hid (And.intro b (And.intro c d))
  clear hj HJ a b c d
  go_wp2_with fail
  go_ret2
  exact ⟨y, ns', rfl, NxtK.of_many HCD.out.1 HCD.out.2.1 HCD.out.2.2 (HR.out.st.behind HB4.out), HR.out.post⟩
theorem all_many (W0 w : World) (ab : Nat) (ns : List Nd) (Q : Nat → Prop) (z0 : Int) (rest : List Int) (A : Option Addr) (cap : Nat) (C : Cur W0 w ab ns Q) (hl : NumsAt .i64 w A (z0 :: rest)) (ht : ∀ z ∈ z0 :: rest, isT ns z ∧ wdt ns z = 1 ∧ ¬ isC ns z) (hd : (z0 :: rest).Nodup) (hsm : rest.length ≤ 59) (hroom : ns.length + rest.length < 65536) (hcap : rest.length + 1 ≤ cap) (hcap2 : cap ≤ 9223372036854775807) :
    Calls Tryd.prog 22 #[ptr ab, .slice A (rest.length + 1) cap] w (JoE W0 w ab ns Q 4 z0 rest) := by
  have HJ := Lib.hid (joined_many W0 w ab ns Q 4 1 z0 rest A cap C hl (by decide) ht hd hsm hroom hcap hcap2)
  clear C hl ht hd
  go_enter Tryd.func22, Tryd.ntmps22
  go_wp2_with fail
  refine HJ.out.mono ?_
  rintro e w1 ⟨y, ns', rfl, N, p⟩
  have HN := Lib.hid N
  have HP := Lib.hid p
  clear N p
  go_wp2_with fail
  go_ret2
  exact ⟨y, ns', rfl, HN.out, HP.out⟩
theorem any_many (W0 w : World) (ab : Nat) (ns : List Nd) (Q : Nat → Prop) (z0 : Int) (rest : List Int) (A : Option Addr) (cap : Nat) (C : Cur W0 w ab ns Q) (hl : NumsAt .i64 w A (z0 :: rest)) (ht : ∀ z ∈ z0 :: rest, isT ns z ∧ wdt ns z = 1 ∧ ¬ isC ns z) (hd : (z0 :: rest).Nodup) (hsm : rest.length ≤ 59) (hroom : ns.length + rest.length < 65536) (hcap : rest.length + 1 ≤ cap) (hcap2 : cap ≤ 9223372036854775807) :
    Calls Tryd.prog 23 #[ptr ab, .slice A (rest.length + 1) cap] w (JoE W0 w ab ns Q 5 z0 rest) := by
  have HJ := Lib.hid (joined_many W0 w ab ns Q 5 0 z0 rest A cap C hl (by decide) ht hd hsm hroom hcap hcap2)
  clear C hl ht hd
  go_enter Tryd.func23, Tryd.ntmps23
  go_wp2_with fail
  refine HJ.out.mono ?_
  rintro e w1 ⟨y, ns', rfl, N, p⟩
  have HN := Lib.hid N
  have HP := Lib.hid p
  clear N p
  go_wp2_with fail
  go_ret2
  exact ⟨y, ns', rfl, HN.out, HP.out⟩
end Go.Proofs.YtchbdnifcckloaaDoor
