/-
  What package term's functions make, as trees; arenas that grow by many terms.
-/
import Derived.Test.YtgbmiphaabeodaaDoorTermF
import Derived.Test.YtgbmiphaabeodaaDoorTermT
namespace Go.Proofs.YtgbmiphaabeodaaDoor
open Go.ChangeShapes Go.WideShapes Go.ChangeAt Go.RowKit
set_option linter.unusedVariables false

/-- x is a term, its tree is T, and it alone may be new. -/
structure TP (ns : List Nd) (T : Tr) (x : Int) (ns' : List Nd) : Prop where
  t : isT ns' x
  tr : tr ns' x = T
  o : One ns ns' x
theorem tr_zero {ns : List Nd} : tr ns 0 = .o := tr_none (by unfold isT; omega)
theorem tr_leaf {ns : List Nd} (hwf : WF ns) {x : Int} {op w v : Int} (h : nd ns x = some ⟨op, w, v, 0, 0, 0⟩) : tr ns x = .n op w v .o .o .o := by
  rw [tr_of hwf h, tr_zero]
theorem tp_leaf {ns ns' : List Nd} (hwf : WF ns') {x : Int} {op w v : Int} (h : nd ns' x = some ⟨op, w, v, 0, 0, 0⟩) (ho : One ns ns' x) : TP ns (.n op w v .o .o .o) x ns' :=
  ⟨⟨(nd_pos h).1, (nd_pos h).2.1⟩, tr_leaf hwf h, ho⟩
theorem kids_iff {ns : List Nd} (hwf : WF ns) (n : Nd) : AllC ns n 3 ↔ ((tr ns n.a).kid && (tr ns n.b).kid && (tr ns n.c).kid) = true := by
  simp only [Bool.and_eq_true, tr_kid hwf]
  exact ⟨fun h => by obtain ⟨a, b, c⟩ := allC_parts h; exact ⟨⟨a, b⟩, c⟩, fun h => allC_of ⟨h.1.1, h.1.2, h.2⟩⟩
theorem made_tr {ns ns' : List Nd} (hwf : WF ns) (hwf' : WF ns') (he : ∃ l, ns' = ns ++ l) {n : Nd} {x : Int} (hn : NW ns n) (h3 : 3 ≤ n.op) (h : MadeP ns n x ns') : TP ns (Tr.mk n.op n.w (tr ns n.a) (tr ns n.b) (tr ns n.c)) x ns' := by
  refine ⟨h.t, ?_, h.o⟩
  have hv : n.val = 0 := (hn.three (by omega) (by omega)).1
  unfold Tr.mk
  by_cases hc : AllC ns n 3
  · rw [if_pos ((kids_iff hwf n).1 hc), tr_leaf hwf' (h.k hc)]
    have e : (Tr.n n.op n.w 0 (tr ns n.a) (tr ns n.b) (tr ns n.c)).ev [] = nv (wdt ns) (V ns []) [] n := by
      rw [Tr.ev, tr_ev hwf, tr_ev hwf, tr_ev hwf, tr_w hwf]
      unfold nv
      rw [hv]
    rw [e]; rfl
  · rw [if_neg (fun k => hc ((kids_iff hwf n).2 k)), tr_of hwf' (h.e hc), hv]
    obtain ⟨l, rfl⟩ := he
    rw [tr_append hwf' hn.pa.2, tr_append hwf' hn.pb.2, tr_append hwf' hn.pc.2]
theorem one_refl (ns : List Nd) (x : Int) : One ns ns x := .inl rfl
/-! ### Contracts -/
section
variable (w : World) (ab : Nat) (ns : List Nd) (foot : Nat → Prop)
theorem u_const (wd v : Int) (h : Ar w ab ns foot) (hl : ns.length < 65536) (hw : mayw wd) (v0 : 0 ≤ v) (v1 : v ≤ 65535) :
    Calls Tryd.prog 17 #[ptr ab, .int .i64 wd, .int .u16 v] w fun e w' => ∃ x : Int, e = .returned (.tuple #[.int .i64 x, .int .i64 0]) ∧ Got w ab ns foot w' (fun ns' => TP ns (Tr.mkC wd (low wd v)) x ns' ∧ NV ns ns') :=
  (const_yes w ab ns foot wd v h hl hw v0 v1).mono fun e w' hh => by
    obtain ⟨x, he, ns', foot', st, p⟩ := hh
    exact ⟨x, he, ns', foot', st, tp_leaf st.ar.wf p.1 p.2.2, p.2.1⟩
theorem u_var (wd : Int) (id : Nat) (h : Ar w ab ns foot) (hl : ns.length < 65536) (hw : mayw wd) (hid : id < 64) (hs : ∀ (i : Nat) (m : Nd), ns[i]? = some m → m.op = 2 → m.val = (id : Int) → m.w = wd) :
    Calls Tryd.prog 19 #[ptr ab, .int .i64 wd, .int .i64 id] w fun e w' => ∃ x : Int, e = .returned (.tuple #[.int .i64 x, .int .i64 0]) ∧ Got w ab ns foot w' (fun ns' => TP ns (.n 2 wd id .o .o .o) x ns' ∧ NVV ns ns' ⟨2, wd, id, 0, 0, 0⟩) :=
  (var_yes w ab ns foot wd id h hl hw hid hs).mono fun e w' hh => by
    obtain ⟨x, he, ns', foot', st, p⟩ := hh
    exact ⟨x, he, ns', foot', st, tp_leaf st.ar.wf p.1 p.2.2, p.2.1⟩
theorem u_two (op p q : Int) (h : Ar w ab ns foot) (hl : ns.length < 65536) (h0 : 4 ≤ op) (h1 : op ≤ 15) (hp : isT ns p) (hq : isT ns q) (hw : wdt ns q = wdt ns p) :
    Calls Tryd.prog 18 #[ptr ab, .int .i64 op, .int .i64 p, .int .i64 q] w fun e w' => ∃ x : Int, e = .returned (.tuple #[.int .i64 x, .int .i64 0]) ∧ Got w ab ns foot w' (fun ns' => TP ns (Tr.mk op (outV op (tr ns p).w) (tr ns p) (tr ns q) .o) x ns' ∧ NV ns ns') :=
  (two_yes w ab ns foot op p q h hl h0 h1 hp hq hw).mono fun e w' hh => by
    obtain ⟨x, he, ns', foot', st, p'⟩ := hh
    have := made_tr h.wf st.ar.wf st.ext (nw_two h.wf h0 h1 hp hq hw) (show 3 ≤ op by omega) p'
    rw [tr_zero, ← tr_w h.wf] at this
    exact ⟨x, he, ns', foot', st, this, p'.n⟩
theorem u_not (p : Int) (h : Ar w ab ns foot) (hl : ns.length < 65536) (hp : isT ns p) :
    Calls Tryd.prog 21 #[ptr ab, .int .i64 p] w fun e w' => ∃ x : Int, e = .returned (.tuple #[.int .i64 x, .int .i64 0]) ∧ Got w ab ns foot w' (fun ns' => TP ns (Tr.mk 3 (tr ns p).w (tr ns p) .o .o) x ns' ∧ NV ns ns') :=
  (not_yes w ab ns foot p h hl hp).mono fun e w' hh => by
    obtain ⟨x, he, ns', foot', st, p'⟩ := hh
    have := made_tr h.wf st.ar.wf st.ext (nw_not h.wf hp) (show (3 : Int) ≤ 3 by decide) p'
    rw [tr_zero, ← tr_w h.wf] at this
    exact ⟨x, he, ns', foot', st, this, p'.n⟩
theorem u_ite (r p q : Int) (h : Ar w ab ns foot) (hl : ns.length < 65536) (hr : isT ns r) (hp : isT ns p) (hq : isT ns q) (hw1 : wdt ns r = 1) (hw : wdt ns q = wdt ns p) :
    Calls Tryd.prog 22 #[ptr ab, .int .i64 r, .int .i64 p, .int .i64 q] w fun e w' => ∃ x : Int, e = .returned (.tuple #[.int .i64 x, .int .i64 0]) ∧ Got w ab ns foot w' (fun ns' => TP ns (Tr.mkIte (tr ns r) (tr ns p) (tr ns q)) x ns' ∧ NV ns ns') :=
  (ite_yes w ab ns foot r p q h hl hr hp hq hw1 hw).mono fun e w' hh => by
    obtain ⟨x, he, ns', foot', st, p'⟩ := hh
    refine ⟨x, he, ns', foot', st, ?_, p'.n⟩
    unfold Tr.mkIte
    by_cases hc : isC ns r
    · obtain ⟨rfl, e2⟩ := p'.e hc
      rw [if_pos ((tr_cst h.wf r).2 hc), tr_ev h.wf]
      subst e2
      split
      · exact ⟨hp, rfl, one_refl _ _⟩
      · exact ⟨hq, rfl, one_refl _ _⟩
    · rw [if_neg (fun k => hc ((tr_cst h.wf r).1 k))]
      have := made_tr h.wf st.ar.wf st.ext (nw_ite h.wf hr hp hq hw1 hw) (show (3 : Int) ≤ 16 by decide) (p'.k hc)
      rw [← tr_w h.wf] at this
      exact this
theorem res_tr {ns ns' : List Nd} (hwf : WF ns) (hwf' : WF ns') (he : ∃ l, ns' = ns ++ l) {op wd x z : Int} (ho : op = 17 ∨ op = 18) (hw : mayw wd) (hx : isT ns x) (h : ResX ns op wd x z ns') : TP ns (Tr.mkX op wd (tr ns x)) z ns' := by
  unfold Tr.mkX
  rw [tr_w hwf]
  by_cases hc : wd = wdt ns x
  · obtain ⟨rfl, rfl⟩ := h.e hc
    rw [if_pos hc]
    exact ⟨hx, rfl, one_refl _ _⟩
  · rw [if_neg hc]
    have := made_tr hwf hwf' he (nw_res ho hw hx) (show (3 : Int) ≤ op by omega) (h.k hc)
    rw [tr_zero] at this
    exact this
theorem u_ext (wd p : Int) (h : Ar w ab ns foot) (hl : ns.length < 65536) (hw : mayw wd) (hp : isT ns p) (hc : wdt ns p ≤ wd) :
    Calls Tryd.prog 23 #[ptr ab, .int .i64 wd, .int .i64 p] w fun e w' => ∃ x : Int, e = .returned (.tuple #[.int .i64 x, .int .i64 0]) ∧ Got w ab ns foot w' (fun ns' => TP ns (Tr.mkX 17 wd (tr ns p)) x ns' ∧ NV ns ns') :=
  (ext_yes w ab ns foot wd p h hl hw hp hc).mono fun e w' hh => by
    obtain ⟨x, he, ns', foot', st, p'⟩ := hh
    exact ⟨x, he, ns', foot', st, res_tr h.wf st.ar.wf st.ext (.inl rfl) hw hp p', p'.n⟩
theorem u_cut (wd p : Int) (h : Ar w ab ns foot) (hl : ns.length < 65536) (hw : mayw wd) (hp : isT ns p) (hc : wd ≤ wdt ns p) :
    Calls Tryd.prog 24 #[ptr ab, .int .i64 wd, .int .i64 p] w fun e w' => ∃ x : Int, e = .returned (.tuple #[.int .i64 x, .int .i64 0]) ∧ Got w ab ns foot w' (fun ns' => TP ns (Tr.mkX 18 wd (tr ns p)) x ns' ∧ NV ns ns') :=
  (cut_yes w ab ns foot wd p h hl hw hp hc).mono fun e w' hh => by
    obtain ⟨x, he, ns', foot', st, p'⟩ := hh
    exact ⟨x, he, ns', foot', st, res_tr h.wf st.ar.wf st.ext (.inr rfl) hw hp p', p'.n⟩
end
/-! ### Many steps -/
structure MStep (k : Nat) (w : World) (ab : Nat) (ns : List Nd) (foot : Nat → Prop) (w' : World) (ns' : List Nd) (foot' : Nat → Prop) : Prop where
  ar : Ar w' ab ns' foot'
  kept : Kept foot w w'
  foot_ : ∀ k, foot' k → foot k ∨ w.heap.size ≤ k
  ext : ∃ l, ns' = ns ++ l
  len : ns'.length ≤ ns.length + k
theorem Step.many {w w' : World} {ab : Nat} {ns ns' : List Nd} {foot foot' : Nat → Prop} (h : Step w ab ns foot w' ns' foot') : MStep 1 w ab ns foot w' ns' foot' := ⟨h.ar, h.kept, h.foot_, h.ext, h.len⟩
theorem MStep.refl {w : World} {ab : Nat} {ns : List Nd} {foot : Nat → Prop} (h : Ar w ab ns foot) : MStep 0 w ab ns foot w ns foot := ⟨h, Kept.refl _ _, fun k hk => .inl hk, ⟨[], by simp⟩, by omega⟩
theorem MStep.trans {k j : Nat} {w w1 w2 : World} {ab : Nat} {ns ns1 ns2 : List Nd} {foot foot1 foot2 : Nat → Prop} (h : MStep k w ab ns foot w1 ns1 foot1) (g : MStep j w1 ab ns1 foot1 w2 ns2 foot2) : MStep (k + j) w ab ns foot w2 ns2 foot2 :=
  ⟨g.ar, h.kept.trans g.kept (fun b hb hf => by
      rcases h.foot_ b hf with h1 | h1
      · exact h1
      · omega), fun b hb => by
      rcases g.foot_ b hb with h1 | h1
      · exact h.foot_ b h1
      · exact .inr (Nat.le_trans h.kept.size h1), by
      obtain ⟨l, rfl⟩ := h.ext
      obtain ⟨m, rfl⟩ := g.ext
      exact ⟨l ++ m, by rw [List.append_assoc]⟩, by have := h.len; have := g.len; omega⟩
theorem MStep.behind {k : Nat} {w w1 w' : World} {ab : Nat} {ns ns' : List Nd} {foot foot' : Nat → Prop} (b : Below w.heap.size w w1) (h : MStep k w1 ab ns foot w' ns' foot') : MStep k w ab ns foot w' ns' foot' :=
  ⟨h.ar, (Kept.of_below b).trans h.kept (fun _ _ h => h), fun c hc => by
    rcases h.foot_ c hc with h | h
    · exact .inl h
    · exact .inr (Nat.le_trans b.size h), h.ext, h.len⟩
theorem MStep.ahead {k : Nat} {w w1 w' : World} {ab : Nat} {ns ns' : List Nd} {foot foot' : Nat → Prop} (h : MStep k w ab ns foot w1 ns' foot') (b : Below w1.heap.size w1 w') : MStep k w ab ns foot w' ns' foot' :=
  ⟨h.ar.below b, h.kept.trans (Kept.of_below (S := no) b) (fun _ _ h => h.elim), h.foot_, h.ext, h.len⟩
theorem MStep.more {k j : Nat} {w w' : World} {ab : Nat} {ns ns' : List Nd} {foot foot' : Nat → Prop} (h : MStep k w ab ns foot w' ns' foot') (hj : k ≤ j) : MStep j w ab ns foot w' ns' foot' :=
  ⟨h.ar, h.kept, h.foot_, h.ext, Nat.le_trans h.len (by omega)⟩
/-- What stood stands as it did. -/
theorem ext_tr {ns ns' : List Nd} (hwf' : WF ns') (he : ∃ l, ns' = ns ++ l) {x : Int} (hx : isT ns x) : isT ns' x ∧ tr ns' x = tr ns x := by
  obtain ⟨l, rfl⟩ := he
  exact ⟨⟨hx.1, by have := hx.2; rw [List.length_append]; omega⟩, tr_append hwf' hx.2⟩
end Go.Proofs.YtgbmiphaabeodaaDoor
