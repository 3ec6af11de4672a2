/-
  A region that draws its order, by what each operation that has come up has brought: each operation is gone through once, whatever has come up.
-/
import Derived.Test.YtcndclohbpediaaGenW
import Derived.Deep.RegionHeld3
import Derived.Deep.AppendLies
import Derived.ArgAppend
namespace Go.Proofs.Ytcndclohbpediaa
open Go.ChangeShapes Go.WideShapes Go.ChangeAt Go.RowKit Go.Joins
set_option linter.unusedVariables false

section
variable {P : Program} {ops : Array Oper} {Q : Exit → Act → World → Prop} {md : Region.Mode}
theorem up_false {l : Array Bool} {i : Nat} : l.getD i false = true ↔ l[i]? = some true := by
  rw [Array.getD_eq_getD_getElem?]
  cases l[i]? with
  | none => simp
  | some b => simp
theorem up_true {l : Array Bool} {i : Nat} : l.getD i true = false ↔ l[i]? = some false := by
  rw [Array.getD_eq_getD_getElem?]
  cases l[i]? with
  | none => simp
  | some b => simp
theorem no_guard {x : Oper} (h : x.guard = none) (y : Nat → Option Bool) : Region.wanted x y = true := by unfold Region.wanted; rw [h]
theorem falses_put : ∀ (l : List Bool) (i : Nat), l[i]? = some false → ((l.set i true).filter (fun b => !b)).length + 1 = (l.filter (fun b => !b)).length
  | [], i, h => by simp at h
  | b :: l, 0, h => by
    have : b = false := by simpa using h
    subst this
    simp
  | b :: l, i + 1, h => by
    have ih := falses_put l i (by simpa using h)
    cases b <;> simp at ih ⊢ <;> omega
theorem any_by {I : Array Bool → Act → World → Prop} (hs : ∀ (l : Array Bool) (a : Act) (w : World) (i : Nat) (o : Oper), I l a w → ops[i]? = some o → l[i]? = some false → (∀ e ∈ o.after, Region.binds md e = true → l[e.on]? = some true) → ∀ K : Act → World → Prop, (∀ a' w', I (l.setIfInBounds i true) a' w' → K a' w') → wpOp P ops Q i K a w)
    (hd : ∀ (l : Array Bool) (a : Act) (w : World), I l a w → Region.ready md ops l = [] → Q .normal a w) :
    ∀ (fuel : Nat) (l : Array Bool) (a : Act) (w : World), I l a w → (l.toList.filter (fun b => !b)).length ≤ fuel → wpAny P md ops Q fuel l a w := by
  intro fuel
  induction fuel with
  | zero =>
    intro l a w h hf
    have hr : Region.ready md ops l = [] := by
      refine List.eq_nil_iff_forall_not_mem.2 fun i hi => ?_
      obtain ⟨k0, _⟩ := mem_ready.1 hi
      have k0 := up_true.1 k0
      have : false ∈ l.toList.filter (fun b => !b) := List.mem_filter.2 ⟨List.mem_of_getElem? (i := i) (by simpa using k0), rfl⟩
      have e : l.toList.filter (fun b => !b) = [] := List.eq_nil_of_length_eq_zero (by omega)
      rw [e] at this
      cases this
    exact ⟨hr, hd l a w h hr⟩
  | succ fuel ih =>
    intro l a w h hf
    refine ⟨hd l a w h, fun i hi => ?_⟩
    obtain ⟨k0, o, ho, hall⟩ := mem_ready.1 hi
    have k0 := up_true.1 k0
    refine hs l a w i o h ho k0 (fun e he hb => up_false.1 (hall e he hb)) _ fun a' w' h' => ih _ a' w' h' ?_
    have := falses_put l.toList i (by simpa using k0)
    rw [Array.toList_setIfInBounds]
    omega
theorem all_came (wf : ∀ (i : Nat) (x : Oper), ops[i]? = some x → ∀ e ∈ x.after, Region.binds md e = true → e.on < i) {l : Array Bool} (hl : l.size = ops.size) (h : Region.ready md ops l = []) : ∀ i, i < ops.size → l[i]? = some true := by
  intro i
  induction i using Nat.strongRecOn with
  | _ i ih =>
    intro hi
    cases e : l[i]? with
    | none => rw [Array.getElem?_eq_none_iff] at e; omega
    | some b =>
      cases b with
      | true => rfl
      | false =>
        exfalso
        have hx : ops[i]? = some ops[i] := Array.getElem?_eq_getElem hi
        have : i ∈ Region.ready md ops l := mem_ready.2 ⟨up_true.2 e, ops[i], hx, fun e' he hb => up_false.2 (ih e'.on (wf i _ hx e' he hb) (by have := wf i _ hx e' he hb; omega))⟩
        rw [h] at this; cases this
theorem op_val {o : Oper} {a : Act} {w w' : World} {v : Value} {K : Act → World → Prop} (h : (execOp a.eval o).run P w = .ok (.value v) w') (hk : K (a.put o.dst v) w') : o.wp P a w K Q := by
  unfold Oper.wp; rw [h]; exact hk
theorem op_enter {o : Oper} {a : Act} {w : World} {f : FuncId} {args : Array Value} {K : Act → World → Prop} (h : (execOp a.eval o).run P w = .ok (.enter f args) w) (hk : Calls P f args w fun
      | .returned v, w'' => K (a.put o.dst v) w''
      | .panicked chain, w'' => Q (.panic chain) a w''
      | .outgrown, _ => LetsOut Q) : o.wp P a w K Q := by
  unfold Oper.wp; rw [h]; exact hk
/-- What the operations that have come up have brought; w0: the world ahead of the region. -/
def Came (mk : (Nat → Value) → Act) (Ok : Nat → Value → World → Prop) (n : Nat) (w0 : World) (l : Array Bool) (a : Act) (w : World) : Prop :=
  l.size = n ∧ ∃ v : Nat → Value, a = mk v ∧ Gw w0 w ∧ ∀ j, j < n → l[j]? = some true → Ok j (v j) w
def putv (v : Nat → Value) (i : Nat) (x : Value) : Nat → Value := fun k => if k = i then x else v k
/-- The region: each operation, from what those ahead of it have brought. No guards. -/
theorem region_slots {mk : (Nat → Value) → Act} {Ok : Nat → Value → World → Prop} {id n : Nat} {w0 : World} {v0 : Nat → Value} (hn : ops.size = n) (hm : P.follows .mixedOrders = true)
    (hg : ∀ (i : Nat) (o : Oper), ops[i]? = some o → o.guard = none) (hwf : ∀ (i : Nat) (o : Oper), ops[i]? = some o → ∀ e ∈ o.after, Region.binds .any e = true → e.on < i)
    (hmono : ∀ j v w w', Ok j v w → Gw w w' → Ok j v w')
    (hput : ∀ (i : Nat) (o : Oper) (v : Nat → Value) (x : Value), ops[i]? = some o → (mk v).put o.dst x = mk (putv v i x))
    (hs : ∀ (i : Nat) (o : Oper) (v : Nat → Value) (w : World), ops[i]? = some o → Gw w0 w → (∀ e ∈ o.after, Region.binds .any e = true → Ok e.on (v e.on) w) → ∀ K : Act → World → Prop, (∀ x w', Gw w w' → Ok i x w' → K ((mk v).put o.dst x) w') → o.wp P (mk v) w K Q)
    (hd : ∀ v w, Gw w0 w → (∀ j, j < n → Ok j (v j) w) → Q .normal (mk v) w) : (Code.region id ops true).wp P Q (mk v0) w0 := by
  refine wp_region_any hm ?_
  have h0 : Came mk Ok n w0 (Array.replicate ops.size false) (mk v0) w0.drew := ⟨by rw [Array.size_replicate, hn], v0, rfl, (Gw.refl _).drew, fun j hj h => by rw [Array.getElem?_replicate] at h; split at h <;> cases h⟩
  refine any_by (I := Came mk Ok n w0) ?_ ?_ _ _ _ _ h0 (by simp)
  · intro l a w i o hJ ho hl hdep K hK
    obtain ⟨hsz, v, rfl, hG, hOk⟩ := hJ
    have hi : i < n := by rw [← hn]; exact (Array.getElem?_eq_some_iff.1 ho).1
    unfold wpOp
    rw [ho]
    show if Region.wanted o (yielded ops (mk v).tmps) = true then _ else _
    rw [if_pos (no_guard (hg i o ho) _)]
    refine .inl (hs i o v w ho hG (fun e he hb => hOk _ (Nat.lt_trans (hwf i o ho e he hb) hi) (hdep e he hb)) _ fun x w' hw hx => hK _ _ ⟨by rw [Array.size_setIfInBounds]; exact hsz, putv v i x, hput i o v x ho, hG.trans hw, fun j hj hlj => ?_⟩)
    unfold putv
    by_cases e : j = i
    · subst e; rw [if_pos rfl]; exact hx
    · rw [if_neg e]
      rw [Array.getElem?_setIfInBounds_ne (fun e' => e e'.symm)] at hlj
      exact hmono _ _ _ _ (hOk j hj hlj) hw
  · intro l a w hJ hr
    obtain ⟨hsz, v, rfl, hG, hOk⟩ := hJ
    have hall := all_came (md := .any) hwf (by rw [hsz, hn]) hr
    exact hd v w hG fun j hj => hOk j hj (hall j (by rw [hn]; exact hj))
/-- The region, where some operations are guarded: one that is not wanted brings nothing. -/
theorem region_guards {mk : (Nat → Value) → Act} {Ok : Nat → Value → World → Prop} {id n : Nat} {w0 : World} {v0 : Nat → Value} (hn : ops.size = n) (hm : P.follows .mixedOrders = true)
    (hwf : ∀ (i : Nat) (o : Oper), ops[i]? = some o → ∀ e ∈ o.after, Region.binds .any e = true → e.on < i)
    (hmono : ∀ j v w w', Ok j v w → Gw w w' → Ok j v w')
    (hput : ∀ (i : Nat) (o : Oper) (v : Nat → Value) (x : Value), ops[i]? = some o → (mk v).put o.dst x = mk (putv v i x))
    (hs : ∀ (i : Nat) (o : Oper) (v : Nat → Value) (w : World), ops[i]? = some o → Gw w0 w → (∀ e ∈ o.after, Region.binds .any e = true → Ok e.on (v e.on) w) → (Region.wanted o (yielded ops (mk v).tmps) = false ∧ Ok i undef w) ∨ (Region.wanted o (yielded ops (mk v).tmps) = true ∧ ∀ K : Act → World → Prop, (∀ x w', Gw w w' → Ok i x w' → K ((mk v).put o.dst x) w') → o.wp P (mk v) w K Q))
    (hd : ∀ v w, Gw w0 w → (∀ j, j < n → Ok j (v j) w) → Q .normal (mk v) w) : (Code.region id ops true).wp P Q (mk v0) w0 := by
  refine wp_region_any hm ?_
  have h0 : Came mk Ok n w0 (Array.replicate ops.size false) (mk v0) w0.drew := ⟨by rw [Array.size_replicate, hn], v0, rfl, (Gw.refl _).drew, fun j hj h => by rw [Array.getElem?_replicate] at h; split at h <;> cases h⟩
  refine any_by (I := Came mk Ok n w0) ?_ ?_ _ _ _ _ h0 (by simp)
  · intro l a w i o hJ ho hl hdep K hK
    obtain ⟨hsz, v, rfl, hG, hOk⟩ := hJ
    have hi : i < n := by rw [← hn]; exact (Array.getElem?_eq_some_iff.1 ho).1
    have next : ∀ x w', Gw w w' → Ok i x w' → Came mk Ok n w0 (l.setIfInBounds i true) ((mk v).put o.dst x) w' := fun x w' hw hx =>
      ⟨by rw [Array.size_setIfInBounds]; exact hsz, putv v i x, hput i o v x ho, hG.trans hw, fun j hj hlj => by
        unfold putv
        by_cases e : j = i
        · subst e; rw [if_pos rfl]; exact hx
        · rw [if_neg e]
          rw [Array.getElem?_setIfInBounds_ne (fun e' => e e'.symm)] at hlj
          exact hmono _ _ _ _ (hOk j hj hlj) hw⟩
    unfold wpOp
    rw [ho]
    show if Region.wanted o (yielded ops (mk v).tmps) = true then _ else _
    rcases hs i o v w ho hG (fun e he hb => hOk _ (Nat.lt_trans (hwf i o ho e he hb) hi) (hdep e he hb)) with ⟨h1, h2⟩ | ⟨h1, h2⟩
    · rw [if_neg (by rw [h1]; decide)]
      exact hK _ _ (next _ _ (Gw.refl _) h2)
    · rw [if_pos h1]
      exact .inl (h2 _ fun x w' hw hx => hK _ _ (next x w' hw hx))
  · intro l a w hJ hr
    obtain ⟨hsz, v, rfl, hG, hOk⟩ := hJ
    have hall := all_came (md := .any) hwf (by rw [hsz, hn]) hr
    exact hd v w hG fun j hj => hOk j hj (hall j (by rw [hn]; exact hj))
/-- The region, where operation c writes into what one ahead of it has brought: all ahead of c have come up by then, and are not asked for again. -/
def CameU (mk : (Nat → Value) → Act) (Ok : Nat → Value → World → Prop) (n c : Nat) (ops : Array Oper) (w0 : World) (l : Array Bool) (a : Act) (w : World) : Prop :=
  l.size = n ∧ (∀ (i : Nat) (o : Oper), ops[i]? = some o → l[i]? = some true → ∀ e ∈ o.after, Region.binds .any e = true → l[e.on]? = some true) ∧ ∃ v : Nat → Value, a = mk v ∧ Gw w0 w ∧ ∀ j, j < n → l[j]? = some true → (l[c]? = some true → c ≤ j) → Ok j (v j) w
theorem region_use {mk : (Nat → Value) → Act} {Ok : Nat → Value → World → Prop} {id n c : Nat} {w0 : World} {v0 : Nat → Value} (hn : ops.size = n) (hm : P.follows .mixedOrders = true) (hc : c < n)
    (hg : ∀ (i : Nat) (o : Oper), ops[i]? = some o → o.guard = none) (hwf : ∀ (i : Nat) (o : Oper), ops[i]? = some o → ∀ e ∈ o.after, Region.binds .any e = true → e.on < i)
    (hanc : ∀ l : Array Bool, (∀ (i : Nat) (o : Oper), ops[i]? = some o → l[i]? = some true → ∀ e ∈ o.after, Region.binds .any e = true → l[e.on]? = some true) → l[c]? = some true → ∀ j, j < c → l[j]? = some true)
    (hmono : ∀ j v w w', Ok j v w → Gw w w' → Ok j v w')
    (hput : ∀ (i : Nat) (o : Oper) (v : Nat → Value) (x : Value), ops[i]? = some o → (mk v).put o.dst x = mk (putv v i x))
    (hs : ∀ (i : Nat) (o : Oper) (v : Nat → Value) (w : World), ops[i]? = some o → i ≠ c → Gw w0 w → (∀ e ∈ o.after, Region.binds .any e = true → (c < i → c ≤ e.on) → Ok e.on (v e.on) w) → ∀ K : Act → World → Prop, (∀ x w', Gw w w' → Ok i x w' → K ((mk v).put o.dst x) w') → o.wp P (mk v) w K Q)
    (hsc : ∀ (o : Oper) (v : Nat → Value) (w : World), ops[c]? = some o → Gw w0 w → (∀ j, j < c → Ok j (v j) w) → ∀ K : Act → World → Prop, (∀ x w', Gw w0 w' → Ok c x w' → K ((mk v).put o.dst x) w') → o.wp P (mk v) w K Q)
    (hup : ∀ (i : Nat) (o : Oper), ops[i]? = some o → c < i → ∀ l : Array Bool, (∀ (i : Nat) (o : Oper), ops[i]? = some o → l[i]? = some true → ∀ e ∈ o.after, Region.binds .any e = true → l[e.on]? = some true) → (∀ e ∈ o.after, Region.binds .any e = true → l[e.on]? = some true) → l[c]? = some true)
    (hd : ∀ v w, Gw w0 w → (∀ j, j < n → c ≤ j → Ok j (v j) w) → Q .normal (mk v) w) : (Code.region id ops true).wp P Q (mk v0) w0 := by
  refine wp_region_any hm ?_
  have h0 : CameU mk Ok n c ops w0 (Array.replicate ops.size false) (mk v0) w0.drew := by
    have hno : ∀ j, ¬ (Array.replicate ops.size false)[j]? = some true := fun j h => by rw [Array.getElem?_replicate] at h; split at h <;> cases h
    exact ⟨by rw [Array.size_replicate, hn], fun i o _ h => absurd h (hno i), v0, rfl, (Gw.refl _).drew, fun j _ h => absurd h (hno j)⟩
  refine any_by (I := CameU mk Ok n c ops w0) ?_ ?_ _ _ _ _ h0 (by simp)
  · intro l a w i o hJ ho hl hdep K hK
    obtain ⟨hsz, hdc, v, rfl, hG, hOk⟩ := hJ
    have hi : i < n := by rw [← hn]; exact (Array.getElem?_eq_some_iff.1 ho).1
    have hset : ∀ j, (l.setIfInBounds i true)[j]? = if i = j then some true else l[j]? := fun j => by
      rw [Array.getElem?_setIfInBounds]
      by_cases e : i = j
      · rw [if_pos e, if_pos e, if_pos (by omega)]
      · rw [if_neg e, if_neg e]
    have hdc' : ∀ (k : Nat) (o' : Oper), ops[k]? = some o' → (l.setIfInBounds i true)[k]? = some true → ∀ e ∈ o'.after, Region.binds .any e = true → (l.setIfInBounds i true)[e.on]? = some true := fun k o' hk hlk e he hb => by
      rw [hset]
      by_cases e1 : i = e.on
      · rw [if_pos e1]
      · rw [if_neg e1]
        rw [hset] at hlk
        by_cases e2 : i = k
        · subst e2
          rw [ho] at hk
          injection hk with hk
          subst hk
          exact hdep e he hb
        · rw [if_neg e2] at hlk
          exact hdc k o' hk hlk e he hb
    unfold wpOp
    rw [ho]
    show if Region.wanted o (yielded ops (mk v).tmps) = true then _ else _
    rw [if_pos (no_guard (hg i o ho) _)]
    by_cases hic : i = c
    · subst hic
      have hall := hanc _ hdc' (by rw [hset, if_pos rfl])
      have hall' : ∀ j, j < i → l[j]? = some true := fun j hj => by have := hall j hj; rw [hset, if_neg (by omega)] at this; exact this
      refine .inl (hsc o v w ho hG (fun j hj => hOk j (by omega) (hall' j hj) (fun h => by rw [hl] at h; cases h)) _ fun x w' hw hx => hK _ _ ⟨by rw [Array.size_setIfInBounds]; exact hsz, hdc', putv v i x, hput i o v x ho, hw, fun j hj hlj hcj => ?_⟩)
      have h9 : i ≤ j := hcj (by rw [hset, if_pos rfl])
      unfold putv
      by_cases e : j = i
      · subst e; rw [if_pos rfl]; exact hx
      · exfalso
        rw [hset, if_neg (fun q => e q.symm)] at hlj
        have := hup j ops[j] (Array.getElem?_eq_getElem (by omega)) (by omega) l hdc (fun e he hb => hdc j _ (Array.getElem?_eq_getElem (by omega)) hlj e he hb)
        rw [hl] at this
        cases this
    · refine .inl (hs i o v w ho hic hG (fun e he hb hce => hOk _ (Nat.lt_trans (hwf i o ho e he hb) hi) (hdep e he hb) (fun hlc => by
          by_cases h : c < i
          · exact hce h
          · exfalso
            have := hanc l hdc hlc i (by omega)
            rw [hl] at this
            cases this)) _ fun x w' hw hx => hK _ _ ⟨by rw [Array.size_setIfInBounds]; exact hsz, hdc', putv v i x, hput i o v x ho, hG.trans hw, fun j hj hlj hcj => ?_⟩)
      unfold putv
      by_cases e : j = i
      · subst e; rw [if_pos rfl]; exact hx
      · rw [if_neg e]
        rw [hset, if_neg (fun q => e q.symm)] at hlj
        rw [hset, if_neg hic] at hcj
        exact hmono _ _ _ _ (hOk j hj hlj hcj) hw
  · intro l a w hJ hr
    obtain ⟨hsz, hdc, v, rfl, hG, hOk⟩ := hJ
    have hall := all_came (md := .any) hwf (by rw [hsz, hn]) hr
    exact hd v w hG fun j hj hcj => hOk j hj (hall j (by rw [hn]; exact hj)) (fun _ => hcj)
end
theorem ops_guard {ops : Array Oper} (h : ops.toList.all (fun o => o.guard.isNone) = true) (i : Nat) (o : Oper) (ho : ops[i]? = some o) : o.guard = none := by
  have := List.all_eq_true.1 h o (by rw [← Array.getElem?_toList] at ho; exact List.mem_of_getElem? ho)
  simpa using this
theorem ops_wf {ops : Array Oper} (h : (List.range ops.size).all (fun i => match ops[i]? with | some x => x.after.all fun e => !Region.binds .any e || decide (e.on < i) | none => true) = true) (i : Nat) (o : Oper) (ho : ops[i]? = some o) : ∀ e ∈ o.after, Region.binds .any e = true → e.on < i := by
  have hi : i < ops.size := (Array.getElem?_eq_some_iff.1 ho).1
  have := List.all_eq_true.1 h i (List.mem_range.2 hi)
  rw [ho] at this
  intro e he hb
  have h2 := Array.all_eq_true.1 this
  obtain ⟨j, hj, rfl⟩ := Array.getElem_of_mem he
  have h3 := h2 j hj
  rw [hb] at h3
  simpa using h3
theorem wanted_of {o : Oper} {ops : Array Oper} {tmps : Array Value} {j d : Nat} {b c : Bool} (hg : o.guard = some (j, b)) (hd : (ops[j]?).bind (·.dst) = some d) (ht : tmps[d]? = some (.bool c)) : Region.wanted o (yielded ops tmps) = (c == b) := by
  unfold Region.wanted yielded
  rw [hg]
  simp only [hd, Option.bind_some, ht]
  cases b <;> cases c <;> rfl
/-- An append for which there is no room: a new row. -/
theorem op_append_new {P : Program} {w : World} {o : Oper} {a : Act} {K : Act → World → Prop} {Q : Exit → Act → World → Prop} (s x : Operand) (t : TypeId)
    (ho : o.op = .call { callee := .builtin .append, args := #[s, x], argTypes := #[t, t] })
    (e : TypeId) (i : TypeInfo) (z : Value) (size bytes : Nat) (ht : P.underlying t = some (.slice e)) (hi : P.info? e = some i) (hz : i.zero = some z)
    (hsize : i.size = size) (hby : i.bytes = bytes) (hzs : z.cells.size = size) (hsz : 0 < size)
    (b : Addr) (n cap : Nat) (olds : List Value) (hs : a.eval s = .slice (some b) n cap) (hlo : olds.length = n * size) (holds : ∀ j u, olds[j]? = some u → w.cell? (b.add j) = some u)
    (ad : Addr) (m c : Nat) (news : List Value) (hx : a.eval x = .slice (some ad) m c) (hl : news.length = m * size) (hnews : ∀ j u, news[j]? = some u → w.cell? (ad.add j) = some u)
    (hg : cap < n + m) (h63 : n + m ≤ maxLen) (hbytes : (n + m) * bytes ≤ 140737488355328)
    (h : ∀ v' w', w'.ownsRow w.heap.size e size v' (n + m) (olds ++ news) → Gw w w' → K (a.put o.dst v') w') : o.wp P a w K Q := by
  obtain ⟨v', w', hr, h2, h3⟩ := run_append_arg_grows (P := P) (w := w) t o.type e i z size bytes ht hi hz hsize hby hzs hsz b n cap olds hlo holds ad m c news hl hnews hg h63 hbytes
  unfold Oper.wp execOp
  simp only [ho, resolve, invoke, builtin, Sem.run_bind, Sem.run_pure, Result.andThen_ok, List.map_toArray, List.map_cons, List.map_nil, hs, hx, hr]
  exact h v' w' h2 ((Gw.refl w).grown h3 fun k hk => by cases hk)
end Go.Proofs.Ytcndclohbpediaa
