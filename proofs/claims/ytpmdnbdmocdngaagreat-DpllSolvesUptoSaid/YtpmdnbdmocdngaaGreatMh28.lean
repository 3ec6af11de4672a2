/-
  Parts of the proof, joined: DpllTl.
-/
import Derived.Test.YtpmdnbdmocdngaaGreatMh13

namespace Go.Proofs.YtpmdnbdmocdngaaGreat
set_option linter.unusedVariables false

section
variable {P : Program} {pre : Array Oper} {o : Oper} {Q : Exit → Act → World → Prop}
/-- Does j wait for i, by a chain of so many? -/
def reachB (pre : Array Oper) : Nat → Nat → Nat → Bool
  | 0, j, i => j == i
  | k + 1, j, i => j == i || match pre[j]? with
    | some x => x.after.any fun e => Region.binds .any e && reachB pre k e.on i
    | none => false
theorem reach_done {l : Array Bool} (S : Shut2 pre l) : ∀ (k j i : Nat), reachB pre k j i = true → l[j]? = some true → l[i]? = some true
  | 0, j, i, h, hj => by
    have : j = i := by simpa [reachB] using h
    rw [← this]; exact hj
  | k + 1, j, i, h, hj => by
    unfold reachB at h
    rw [Bool.or_eq_true] at h
    rcases h with h | h
    · have : j = i := by simpa using h
      rw [← this]; exact hj
    · split at h
      · rename_i x hx
        obtain ⟨k2, hk2, hb⟩ := Array.any_eq_true.1 h
        rw [Bool.and_eq_true] at hb
        exact reach_done S k _ i hb.2 (S.2 j x hx hj _ (Array.getElem_mem hk2) hb.1)
      · cases h
def tailB2 (pre : Array Oper) (o : Oper) : Bool :=
  pre.all (fun x => x.guard.isNone) && o.guard.isNone &&
  (List.range pre.size).all (fun i => match pre[i]? with | some x => x.after.all fun e => !Region.binds .any e || decide (e.on < i) | none => false) &&
  o.after.all (fun e => decide (e.on < pre.size)) &&
  (List.range pre.size).all (fun i => o.after.any fun e => Region.binds .any e && reachB pre 12 e.on i)
structure Tail2 (pre : Array Oper) (o : Oper) : Prop where
  g1 : ∀ (i : Nat) (x : Oper), pre[i]? = some x → x.guard = none
  g2 : o.guard = none
  wf : ∀ (i : Nat) (x : Oper), pre[i]? = some x → ∀ e ∈ x.after, Region.binds .any e = true → e.on < i
  o1 : ∀ e ∈ o.after, e.on < pre.size
  o2 : ∀ l : Array Bool, Shut2 pre l → (∀ e ∈ o.after, Region.binds .any e = true → l[e.on]? = some true) → ∀ i, i < pre.size → l[i]? = some true
theorem tail_of2 (h : tailB2 pre o = true) : Tail2 pre o := by
  unfold tailB2 at h
  simp only [Bool.and_eq_true] at h
  obtain ⟨⟨⟨⟨h1, h2⟩, h3⟩, h4⟩, h5⟩ := h
  refine ⟨fun i x hx => ?_, Option.isNone_iff_eq_none.1 h2, fun i x hx e he hb => ?_, fun e he => ?_, fun l S hl i hi => ?_⟩
  · obtain ⟨hi, hx'⟩ := Array.getElem?_eq_some_iff.1 hx
    have := Array.all_eq_true.1 h1 i hi
    rw [hx'] at this; exact Option.isNone_iff_eq_none.1 this
  · have hi := (Array.getElem?_eq_some_iff.1 hx).1
    have := List.all_eq_true.1 h3 i (List.mem_range.2 hi)
    rw [hx] at this
    obtain ⟨k, hk, e'⟩ := Array.mem_iff_getElem.1 he
    have := Array.all_eq_true.1 this k hk
    rw [e', hb] at this
    simpa using this
  · obtain ⟨k, hk, e'⟩ := Array.mem_iff_getElem.1 he
    have := Array.all_eq_true.1 h4 k hk
    rw [e'] at this; exact of_decide_eq_true this
  · have := List.all_eq_true.1 h5 i (List.mem_range.2 hi)
    obtain ⟨k, hk, hb⟩ := Array.any_eq_true.1 this
    rw [Bool.and_eq_true] at hb
    exact reach_done S 12 _ i hb.2 (hl _ (Array.getElem_mem hk) hb.1)
theorem all_in2 (T : Tail2 pre o) {l : Array Bool} (hl : l.size = pre.size) (h : Region.ready .any pre l = []) : ∀ i, i < pre.size → l[i]? = some true := by
  intro i
  induction i using Nat.strongRecOn with
  | _ i ih =>
    intro hi
    cases e : l[i]? with
    | none => rw [Array.getElem?_eq_none_iff] at e; omega
    | some b =>
      cases b with
      | true => rfl
      | false =>
        exfalso
        have hx : pre[i]? = some pre[i] := Array.getElem?_eq_getElem hi
        have : i ∈ Region.ready .any pre l := mem_ready.2 ⟨at_true.2 e, pre[i], hx, fun e' he hb => at_false.2 (ih e'.on (T.wf i _ hx e' he hb) (by have := T.wf i _ hx e' he hb; omega))⟩
        rw [h] at this; cases this
theorem ready_pre2 (T : Tail2 pre o) {l : Array Bool} (hl : l.size = pre.size) {i : Nat} (hi : i < pre.size) (h : i ∈ Region.ready .any (pre.push o) (l.push false)) : i ∈ Region.ready .any pre l := by
  obtain ⟨h0, x, hx, hall⟩ := mem_ready.1 h
  rw [Array.getElem?_push, if_neg (by omega)] at hx
  have h0 := at_true.1 h0
  rw [Array.getElem?_push, if_neg (by omega)] at h0
  refine mem_ready.2 ⟨at_true.2 h0, x, hx, fun e he hb => ?_⟩
  have := at_false.1 (hall e he hb)
  have hlt := T.wf i x hx e he hb
  rw [Array.getElem?_push, if_neg (by omega)] at this
  exact at_false.2 this
theorem ready_last2 (T : Tail2 pre o) {l : Array Bool} (S : Shut2 pre l) (h : pre.size ∈ Region.ready .any (pre.push o) (l.push false)) : Region.ready .any pre l = [] := by
  obtain ⟨h0, x, hx, hall⟩ := mem_ready.1 h
  rw [Array.getElem?_push, if_pos rfl] at hx
  injection hx with hx; subst hx
  have ho : ∀ e ∈ o.after, Region.binds .any e = true → l[e.on]? = some true := fun e he hb => by
    have := at_false.1 (hall e he hb)
    rw [Array.getElem?_push, if_neg (by have := T.o1 e he; have := S.1; omega)] at this
    exact this
  have hl : ∀ i, i < pre.size → l[i]? = some true := T.o2 l S ho
  refine List.eq_nil_iff_forall_not_mem.2 fun i hi => ?_
  obtain ⟨k0, x, hx, _⟩ := mem_ready.1 hi
  have := hl i (Array.getElem?_eq_some_iff.1 hx).1
  rw [at_true.1 k0] at this; cases this
theorem last_ready2 (T : Tail2 pre o) {l : Array Bool} (hl : l.size = pre.size) (h : ∀ i, i < pre.size → l[i]? = some true) : pre.size ∈ Region.ready .any (pre.push o) (l.push false) :=
  mem_ready.2 ⟨at_true.2 (by rw [Array.getElem?_push, if_pos (by omega)]), o, by rw [Array.getElem?_push, if_pos rfl], fun e he _ => at_false.2 (by
    have := T.o1 e he
    rw [Array.getElem?_push, if_neg (by omega)]; exact h _ this)⟩
theorem any_tail2 (T : Tail2 pre o) : ∀ (fuel : Nat) (l : Array Bool) (a : Act) (w : World), Shut2 pre l → wpAny P .any pre (lastPost P o Q) fuel l a w → wpAny P .any (pre.push o) Q (fuel + 1) (l.push false) a w := by
  have last : ∀ (fuel : Nat) (l : Array Bool) (a : Act) (w : World), Shut2 pre l → Region.ready .any pre l = [] → lastPost P o Q .normal a w → (Region.ready .any (pre.push o) (l.push false) = [] → Q .normal a w) ∧ wpOp P (pre.push o) Q pre.size (wpAny P .any (pre.push o) Q fuel ((l.push false).setIfInBounds pre.size true)) a w := by
    intro fuel l a w S hr hq
    have hall := all_in2 T S.1 hr
    refine ⟨fun h => ?_, ?_⟩
    · have := last_ready2 T S.1 hall; rw [h] at this; cases this
    · unfold wpOp
      rw [Array.getElem?_push, if_pos rfl]
      simp only []
      rw [if_pos (wanted_none T.g2 _)]
      exact .inl (Oper.wp_mono (fun a' w' h' => wpAny_done (all_done S.1 hall) h' fuel) hq)
  intro fuel
  induction fuel with
  | zero =>
    intro l a w S h
    obtain ⟨h1, h2⟩ := last 0 l a w S h.1 h.2
    refine ⟨h1, fun i hi => ?_⟩
    by_cases e : i = pre.size
    · subst e; exact h2
    · have hlt : i < pre.size := by obtain ⟨_, x, hx, _⟩ := mem_ready.1 hi; have := (Array.getElem?_eq_some_iff.1 hx).1; rw [Array.size_push] at this; omega
      have := ready_pre2 T S.1 hlt hi
      rw [h.1] at this; cases this
  | succ fuel ih =>
    intro l a w S h
    refine ⟨fun hr => ?_, fun i hi => ?_⟩
    · by_cases hp : Region.ready .any pre l = []
      · exact (last (fuel + 1) l a w S hp (h.1 hp)).1 hr
      · obtain ⟨i, hi⟩ := List.exists_mem_of_ne_nil _ hp
        exfalso
        obtain ⟨k0, x, hx, hall⟩ := mem_ready.1 hi
        have hlt := (Array.getElem?_eq_some_iff.1 hx).1
        have : i ∈ Region.ready .any (pre.push o) (l.push false) := mem_ready.2 ⟨at_true.2 (by rw [Array.getElem?_push, if_neg (by have := S.1; omega)]; exact at_true.1 k0), x, by rw [Array.getElem?_push, if_neg (by omega)]; exact hx, fun e he hb => at_false.2 (by
          have := T.wf i x hx e he hb
          rw [Array.getElem?_push, if_neg (by have := S.1; omega)]; exact at_false.1 (hall e he hb))⟩
        rw [hr] at this; cases this
    · by_cases e : i = pre.size
      · subst e
        have hp := ready_last2 T S hi
        exact (last (fuel + 1) l a w S hp (h.1 hp)).2
      · have hlt : i < pre.size := by obtain ⟨_, x, hx, _⟩ := mem_ready.1 hi; have := (Array.getElem?_eq_some_iff.1 hx).1; rw [Array.size_push] at this; omega
        have hi' := ready_pre2 T S.1 hlt hi
        have h1 := h.2 i hi'
        have hset : (l.push false).setIfInBounds i true = (l.setIfInBounds i true).push false := by
          refine Array.ext_getElem? fun j => ?_
          have hs := S.1
          by_cases ej : i = j
          · subst ej
            rw [Array.getElem?_setIfInBounds_self_of_lt (by rw [Array.size_push]; omega), Array.getElem?_push, if_neg (by rw [Array.size_setIfInBounds]; omega), Array.getElem?_setIfInBounds_self_of_lt (by omega)]
          · rw [Array.getElem?_setIfInBounds_ne ej, Array.getElem?_push, Array.getElem?_push, Array.size_setIfInBounds, Array.getElem?_setIfInBounds_ne ej]
        have S' : Shut2 pre (l.setIfInBounds i true) := ⟨by rw [Array.size_setIfInBounds]; exact S.1, fun j x hx hj e he hb => by
          by_cases ej : i = j
          · subst ej
            obtain ⟨_, x', hx', hall⟩ := mem_ready.1 hi'
            rw [hx] at hx'; injection hx' with hx'; subst hx'
            have h3 := at_false.1 (hall e he hb)
            exact at_false.1 (getD_set_true (at_false.2 h3))
          · rw [Array.getElem?_setIfInBounds_ne ej] at hj
            exact at_false.1 (getD_set_true (at_false.2 (S.2 j x hx hj e he hb)))⟩
        rw [hset]
        unfold wpOp at h1 ⊢
        obtain ⟨_, x, hx, _⟩ := mem_ready.1 hi'
        rw [hx] at h1
        rw [Array.getElem?_push, if_neg (by omega), hx]
        simp only [] at h1 ⊢
        rw [if_pos (wanted_none (T.g1 i x hx) _)] at h1 ⊢
        rcases h1 with h1 | ⟨k1, k2⟩
        · exact .inl (wp_post (fun a' w' h' => ih _ a' w' S' h') h1)
        · exact .inr ⟨k1, k2⟩
theorem region_tail2 {id : Nat} {a : Act} {w : World} {S : World → Prop} (hm : P.follows .mixedOrders = true) (hc : tailB2 pre o = true) (hS : S w.drew)
    (h : S w.drew → wpAnyH P .any pre (lastPost P o Q) S pre.size (Array.replicate pre.size false) a w.drew) : (Code.region id (pre.push o) true).wp P Q a w := by
  refine wp_region_any hm ?_
  have T := tail_of2 hc
  have k := any_tail2 (Q := Q) T pre.size (Array.replicate pre.size false) a w.drew ⟨by simp, fun i x hx hi => by
    rw [Array.getElem?_replicate] at hi; split at hi <;> cases hi⟩ (wpAny_of_held _ _ _ _ (h hS))
  rw [Array.size_push]
  have e : (Array.replicate pre.size false).push false = Array.replicate (pre.size + 1) false := by rw [← Array.replicate_succ]
  rw [e] at k
  exact k
theorem region_last2 {id : Nat} {ops : Array Oper} {a : Act} {w : World} {S : World → Prop} (hm : P.follows .mixedOrders = true) (hb : ops.back? = some o) (hp : ops.pop = pre) (hc : tailB2 pre o = true) (hS : S w.drew)
    (h : S w.drew → wpAnyH P .any pre (lastPost P o Q) S pre.size (Array.replicate pre.size false) a w.drew) : (Code.region id ops true).wp P Q a w := by
  have e : ops = pre.push o := by
    rw [← hp]
    have hne : ops ≠ #[] := fun e => by rw [e] at hb; simp at hb
    rw [Array.back?_eq_getElem?] at hb
    obtain ⟨h1, h2⟩ := Array.getElem?_eq_some_iff.1 hb
    rw [← h2]
    refine Array.ext_getElem? fun i => ?_
    rw [Array.getElem?_push, Array.size_pop, Array.getElem?_pop]
    by_cases e1 : i = ops.size - 1
    · rw [if_pos e1, e1, Array.getElem?_eq_getElem h1]
    · rw [if_neg e1]
      split
      · rfl
      · rw [Array.getElem?_eq_none (by omega)]
  rw [e]
  exact region_tail2 hm hc hS h
end
end Go.Proofs.YtpmdnbdmocdngaaGreat
