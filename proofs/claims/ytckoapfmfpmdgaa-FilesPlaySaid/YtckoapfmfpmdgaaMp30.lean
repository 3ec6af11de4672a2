/-
  Parts of the proof, joined: GenV.
-/
import Derived.Test.YtckoapfmfpmdgaaMp01

namespace Go.Proofs.Ytckoapfmfpmdgaa
open Go.ChangeShapes Go.WideShapes Go.ChangeAt Go.RowKit Go.Joins
set_option linter.unusedVariables false

section
variable {P : Program} {ops : Array Oper} {Q : Exit → Act → World → Prop} {md : Region.Mode}
theorem vp_false {l : Array Bool} {i : Nat} : l.getD i false = true ↔ l[i]? = some true := by
  rw [Array.getD_eq_getD_getElem?]
  cases l[i]? with
  | none => simp
  | some b => simp
theorem vp_true {l : Array Bool} {i : Nat} : l.getD i true = false ↔ l[i]? = some false := by
  rw [Array.getD_eq_getD_getElem?]
  cases l[i]? with
  | none => simp
  | some b => simp
theorem vno_guard {x : Oper} (h : x.guard = none) (y : Nat → Option Bool) : Region.wanted x y = true := by unfold Region.wanted; rw [h]
theorem vfalses_put : ∀ (l : List Bool) (i : Nat), l[i]? = some false → ((l.set i true).filter (fun b => !b)).length + 1 = (l.filter (fun b => !b)).length
  | [], i, h => by simp at h
  | b :: l, 0, h => by
    have : b = false := by simpa using h
    subst this
    simp
  | b :: l, i + 1, h => by
    have ih := vfalses_put l i (by simpa using h)
    cases b <;> simp at ih ⊢ <;> omega
theorem vany_by {I : Array Bool → Act → World → Prop} (hs : ∀ (l : Array Bool) (a : Act) (w : World) (i : Nat) (o : Oper), I l a w → ops[i]? = some o → l[i]? = some false → (∀ e ∈ o.after, Region.binds md e = true → l[e.on]? = some true) → ∀ K : Act → World → Prop, (∀ a' w', I (l.setIfInBounds i true) a' w' → K a' w') → wpOp P ops Q i K a w)
    (hd : ∀ (l : Array Bool) (a : Act) (w : World), I l a w → Region.ready md ops l = [] → Q .normal a w) :
    ∀ (fuel : Nat) (l : Array Bool) (a : Act) (w : World), I l a w → (l.toList.filter (fun b => !b)).length ≤ fuel → wpAny P md ops Q fuel l a w := by
  intro fuel
  induction fuel with
  | zero =>
    intro l a w h hf
    have hr : Region.ready md ops l = [] := by
      refine List.eq_nil_iff_forall_not_mem.2 fun i hi => ?_
      obtain ⟨k0, _⟩ := mem_ready.1 hi
      have k0 := vp_true.1 k0
      have : false ∈ l.toList.filter (fun b => !b) := List.mem_filter.2 ⟨List.mem_of_getElem? (i := i) (by simpa using k0), rfl⟩
      have e : l.toList.filter (fun b => !b) = [] := List.eq_nil_of_length_eq_zero (by omega)
      rw [e] at this
      cases this
    exact ⟨hr, hd l a w h hr⟩
  | succ fuel ih =>
    intro l a w h hf
    refine ⟨hd l a w h, fun i hi => ?_⟩
    obtain ⟨k0, o, ho, hall⟩ := mem_ready.1 hi
    have k0 := vp_true.1 k0
    refine hs l a w i o h ho k0 (fun e he hb => vp_false.1 (hall e he hb)) _ fun a' w' h' => ih _ a' w' h' ?_
    have := vfalses_put l.toList i (by simpa using k0)
    rw [Array.toList_setIfInBounds]
    omega
theorem vall_came (wf : ∀ (i : Nat) (x : Oper), ops[i]? = some x → ∀ e ∈ x.after, Region.binds md e = true → e.on < i) {l : Array Bool} (hl : l.size = ops.size) (h : Region.ready md ops l = []) : ∀ i, i < ops.size → l[i]? = some true := by
  intro i
  induction i using Nat.strongRecOn with
  | _ i ih =>
    intro hi
    cases e : l[i]? with
    | none => rw [Array.getElem?_eq_none_iff] at e; omega
    | some b =>
      cases b with
      | true => rfl
      | false =>
        exfalso
        have hx : ops[i]? = some ops[i] := Array.getElem?_eq_getElem hi
        have : i ∈ Region.ready md ops l := mem_ready.2 ⟨vp_true.2 e, ops[i], hx, fun e' he hb => vp_false.2 (ih e'.on (wf i _ hx e' he hb) (by have := wf i _ hx e' he hb; omega))⟩
        rw [h] at this; cases this
theorem vop_val {o : Oper} {a : Act} {w w' : World} {v : Value} {K : Act → World → Prop} (h : (execOp a.eval o).run P w = .ok (.value v) w') (hk : K (a.put o.dst v) w') : o.wp P a w K Q := by
  unfold Oper.wp; rw [h]; exact hk
theorem vop_enter {o : Oper} {a : Act} {w : World} {f : FuncId} {args : Array Value} {K : Act → World → Prop} (h : (execOp a.eval o).run P w = .ok (.enter f args) w) (hk : Calls P f args w fun
      | .returned v, w'' => K (a.put o.dst v) w''
      | .panicked chain, w'' => Q (.panic chain) a w''
      | .outgrown, _ => LetsOut Q) : o.wp P a w K Q := by
  unfold Oper.wp; rw [h]; exact hk
def vputv (v : Nat → Value) (i : Nat) (x : Value) : Nat → Value := fun k => if k = i then x else v k
/-- What has come up has brought what is known; the world is by which of the two calls have come up. -/
def Knw (mk : (Nat → Value) → Act) (val : Nat → Value) (S : Bool → Bool → World → Prop) (n c1 c2 : Nat) (l : Array Bool) (a : Act) (w : World) : Prop :=
  l.size = n ∧ ∃ v : Nat → Value, a = mk v ∧ (∀ j, j < n → l[j]? = some true → v j = val j) ∧ S (l.getD c1 false) (l.getD c2 false) w
theorem region_known {mk : (Nat → Value) → Act} {val : Nat → Value} {S : Bool → Bool → World → Prop} {id n c1 c2 : Nat} {w0 : World} {v0 : Nat → Value} (hn : ops.size = n) (hm : P.follows .mixedOrders = true) (h1 : c1 < n) (h2 : c2 < n)
    (hg : ∀ (i : Nat) (o : Oper), ops[i]? = some o → o.guard = none) (hwf : ∀ (i : Nat) (o : Oper), ops[i]? = some o → ∀ e ∈ o.after, Region.binds .any e = true → e.on < i)
    (h0 : S false false w0.drew)
    (hput : ∀ (i : Nat) (o : Oper) (v : Nat → Value) (x : Value), ops[i]? = some o → (mk v).put o.dst x = mk (vputv v i x))
    (hs : ∀ (i : Nat) (o : Oper) (v : Nat → Value) (b1 b2 : Bool) (w : World), ops[i]? = some o → (i = c1 → b1 = false) → (i = c2 → b2 = false) → S b1 b2 w → (∀ e ∈ o.after, Region.binds .any e = true → v e.on = val e.on) → ∀ K : Act → World → Prop, (∀ w', S (b1 || i == c1) (b2 || i == c2) w' → K ((mk v).put o.dst (val i)) w') → o.wp P (mk v) w K Q)
    (hd : ∀ v w, (∀ j, j < n → v j = val j) → S true true w → Q .normal (mk v) w) : (Code.region id ops true).wp P Q (mk v0) w0 := by
  refine wp_region_any hm ?_
  have hf : ∀ c, (Array.replicate ops.size false).getD c false = false := fun c => by
    rw [Array.getD_eq_getD_getElem?, Array.getElem?_replicate]
    split <;> rfl
  have hI : Knw mk val S n c1 c2 (Array.replicate ops.size false) (mk v0) w0.drew := ⟨by rw [Array.size_replicate, hn], v0, rfl, fun j hj h => (by rw [Array.getElem?_replicate] at h; split at h <;> cases h), by rw [hf, hf]; exact h0⟩
  refine vany_by (I := Knw mk val S n c1 c2) ?_ ?_ _ _ _ _ hI (by simp)
  · intro l a w i o hJ ho hl hdep K hK
    obtain ⟨hsz, v, rfl, hv, hS⟩ := hJ
    have hi : i < n := by rw [← hn]; exact (Array.getElem?_eq_some_iff.1 ho).1
    have hli : l.getD i false = false := by rw [Array.getD_eq_getD_getElem?, hl]; rfl
    unfold wpOp
    rw [ho]
    show if Region.wanted o (yielded ops (mk v).tmps) = true then _ else _
    rw [if_pos (vno_guard (hg i o ho) _)]
    have hset : ∀ c, (l.setIfInBounds i true).getD c false = (l.getD c false || i == c) := fun c => by
      rw [Array.getD_eq_getD_getElem?, Array.getD_eq_getD_getElem?]
      by_cases e : i = c
      · subst e
        rw [Array.getElem?_setIfInBounds_self_of_lt (by omega)]
        simp
      · rw [Array.getElem?_setIfInBounds_ne e]
        simp [e]
    refine .inl (hs i o v _ _ w ho (fun e => by rw [← e]; exact hli) (fun e => by rw [← e]; exact hli) hS (fun e he hb => hv _ (Nat.lt_trans (hwf i o ho e he hb) hi) (hdep e he hb)) _ fun w' hS' => hK _ _ ⟨by rw [Array.size_setIfInBounds]; exact hsz, vputv v i (val i), hput i o v _ ho, fun j hj hlj => ?_, by rw [hset, hset]; exact hS'⟩)
    unfold vputv
    by_cases e : j = i
    · subst e; rw [if_pos rfl]
    · rw [if_neg e]
      rw [Array.getElem?_setIfInBounds_ne (fun e' => e e'.symm)] at hlj
      exact hv j hj hlj
  · intro l a w hJ hr
    obtain ⟨hsz, v, rfl, hv, hS⟩ := hJ
    have hall := vall_came (md := .any) hwf (by rw [hsz, hn]) hr
    have ht : ∀ c, c < n → l.getD c false = true := fun c hc => by rw [Array.getD_eq_getD_getElem?, hall c (by rw [hn]; exact hc)]; rfl
    rw [ht c1 h1, ht c2 h2] at hS
    exact hd v w (fun j hj => hv j hj (hall j (by rw [hn]; exact hj))) hS
end
theorem vops_guard {ops : Array Oper} (h : ops.toList.all (fun o => o.guard.isNone) = true) (i : Nat) (o : Oper) (ho : ops[i]? = some o) : o.guard = none := by
  have := List.all_eq_true.1 h o (by rw [← Array.getElem?_toList] at ho; exact List.mem_of_getElem? ho)
  simpa using this
theorem vops_wf {ops : Array Oper} (h : (List.range ops.size).all (fun i => match ops[i]? with | some x => x.after.all fun e => !Region.binds .any e || decide (e.on < i) | none => true) = true) (i : Nat) (o : Oper) (ho : ops[i]? = some o) : ∀ e ∈ o.after, Region.binds .any e = true → e.on < i := by
  have hi : i < ops.size := (Array.getElem?_eq_some_iff.1 ho).1
  have := List.all_eq_true.1 h i (List.mem_range.2 hi)
  rw [ho] at this
  intro e he hb
  have h2 := Array.all_eq_true.1 this
  obtain ⟨j, hj, rfl⟩ := Array.getElem_of_mem he
  have h3 := h2 j hj
  rw [hb] at h3
  simpa using h3
end Go.Proofs.Ytckoapfmfpmdgaa
