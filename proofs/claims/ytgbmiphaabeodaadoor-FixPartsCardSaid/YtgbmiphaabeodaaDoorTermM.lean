/-
  Terms in plain integers: nodes, the value of a term under an assignment, its width, the ids that stand in it, and how these stand when nodes are added. Nothing of the program stands here.
-/
import Derived.Test.YtgbmiphaabeodaaDoorMath2
namespace Go.Proofs.YtgbmiphaabeodaaDoor
open Go.RowKit

/-- A node: operator, width, number, parts. -/
structure Nd where
  op : Int
  w : Int
  val : Int
  a : Int
  b : Int
  c : Int

def nd (ns : List Nd) (x : Int) : Option Nd := if 1 ≤ x then ns[(x - 1).toNat]? else none
def wdt (ns : List Nd) (x : Int) : Int := match nd ns x with | some n => n.w | none => 0
/-- Is x a term? -/
def isT (ns : List Nd) (x : Int) : Prop := 1 ≤ x ∧ x ≤ ns.length

/-- What a node is worth, by the widths and values of its parts. -/
def nv (W V : Int → Int) (env : List Int) (n : Nd) : Int :=
  if n.op = 1 then n.val else if n.op = 2 then low n.w (env.getD n.val.toNat 0)
  else if n.op = 16 then (if V n.a = 1 then V n.b else V n.c)
  else if n.op = 17 ∨ n.op = 18 then low n.w (V n.a)
  else doM n.op (W n.a) (low (W n.a) (V n.a)) (low (W n.a) (V n.b))
def tv (ns : List Nd) (env : List Int) : Nat → Int → Int
  | 0, _ => 0
  | f + 1, x => match nd ns x with | some n => nv (wdt ns) (tv ns env f) env n | none => 0
/-- A term's value; 0 of none. -/
def V (ns : List Nd) (env : List Int) (x : Int) : Int := tv ns env x.toNat x

/-- Which ids stand in a node, a bit each. -/
def niv (I : Int → Nat) (n : Nd) : Nat := if n.op = 2 then 1 <<< n.val.toNat else (I n.a ||| I n.b) ||| I n.c
def ti (ns : List Nd) : Nat → Int → Nat
  | 0, _ => 0
  | f + 1, x => match nd ns x with | some n => niv (ti ns f) n | none => 0
def Iv (ns : List Nd) (x : Int) : Nat := ti ns x.toNat x

/-- A part is a term or 0. -/
def part (ns : List Nd) (p : Int) : Prop := 0 ≤ p ∧ p ≤ ns.length
/-- A node that may stand behind the terms ns. -/
structure NW (ns : List Nd) (n : Nd) : Prop where
  mw : mayw n.w
  op0 : 1 ≤ n.op
  op1 : n.op ≤ 18
  pa : part ns n.a
  pb : part ns n.b
  pc : part ns n.c
  v0 : 0 ≤ n.val
  v1 : n.val ≤ 65535
  one : n.op = 1 → n.val < pw n.w ∧ n.a = 0 ∧ n.b = 0 ∧ n.c = 0
  two : n.op = 2 → n.val < 64 ∧ n.a = 0 ∧ n.b = 0 ∧ n.c = 0
  three : n.op ≠ 1 → n.op ≠ 2 → n.val = 0 ∧ 1 ≤ n.a
  ar : 3 ≤ n.op → n.op ≤ 15 → n.w = outV n.op (wdt ns n.a) ∧ n.c = 0 ∧ (n.op = 3 → n.b = 0) ∧ (n.op ≠ 3 → 1 ≤ n.b ∧ wdt ns n.b = wdt ns n.a)
  ite : n.op = 16 → 1 ≤ n.b ∧ 1 ≤ n.c ∧ wdt ns n.a = 1 ∧ wdt ns n.b = n.w ∧ wdt ns n.c = n.w
  ext : n.op = 17 ∨ n.op = 18 → n.b = 0 ∧ n.c = 0
/-- Every node's parts stand ahead of it. -/
def WF (ns : List Nd) : Prop := ∀ i n, ns[i]? = some n → NW (ns.take i) n

theorem nd_pos {ns : List Nd} {x : Int} {n : Nd} (h : nd ns x = some n) : 1 ≤ x ∧ x ≤ ns.length ∧ ns[(x - 1).toNat]? = some n := by
  unfold nd at h
  by_cases hx : 1 ≤ x
  · rw [if_pos hx] at h
    have := (List.getElem?_eq_some_iff.1 h).1
    exact ⟨hx, by omega, h⟩
  · rw [if_neg hx] at h; cases h
theorem nd_some {ns : List Nd} {x : Int} (h : isT ns x) : ∃ n, nd ns x = some n ∧ ns[(x - 1).toNat]? = some n := by
  obtain ⟨h0, h1⟩ := h
  refine ⟨ns[(x - 1).toNat]'(by omega), ?_, List.getElem?_eq_getElem _⟩
  unfold nd; rw [if_pos h0, List.getElem?_eq_getElem]
theorem nd_none {ns : List Nd} {x : Int} (h : ¬ isT ns x) : nd ns x = none := by
  unfold nd
  by_cases hx : 1 ≤ x
  · rw [if_pos hx]; exact List.getElem?_eq_none (by unfold isT at h; omega)
  · rw [if_neg hx]
theorem nd_cast {ns : List Nd} {i : Nat} {n : Nd} (h : ns[i]? = some n) : nd ns ((i : Int) + 1) = some n := by
  unfold nd; rw [if_pos (by omega), show (((i : Int) + 1 - 1).toNat) = i by omega, h]
theorem nd_append {ns l : List Nd} {x : Int} (h : x ≤ ns.length) : nd (ns ++ l) x = nd ns x := by
  unfold nd
  by_cases hx : 1 ≤ x
  · rw [if_pos hx, if_pos hx, List.getElem?_append_left (by omega)]
  · rw [if_neg hx, if_neg hx]
theorem wdt_append {ns l : List Nd} {x : Int} (h : x ≤ ns.length) : wdt (ns ++ l) x = wdt ns x := by unfold wdt; rw [nd_append h]
theorem wdt_of {ns : List Nd} {x : Int} {n : Nd} (h : nd ns x = some n) : wdt ns x = n.w := by unfold wdt; rw [h]
theorem wdt_none {ns : List Nd} {x : Int} (h : ¬ isT ns x) : wdt ns x = 0 := by unfold wdt; rw [nd_none h]
theorem take_append_self {ns : List Nd} (i : Nat) : ns.take i ++ ns.drop i = ns := List.take_append_drop i ns
theorem wdt_take {ns : List Nd} {i : Nat} {x : Int} (h : x ≤ (ns.take i).length) : wdt (ns.take i) x = wdt ns x := by
  have := wdt_append (l := ns.drop i) h; rw [List.take_append_drop] at this; exact this.symm

theorem NW.more {ns l : List Nd} {n : Nd} (h : NW ns n) : NW (ns ++ l) n := by
  have ha := h.pa; have hb := h.pb; have hc := h.pc
  have L : (ns ++ l).length = ns.length + l.length := List.length_append
  unfold part at ha hb hc
  refine ⟨h.mw, h.op0, h.op1, ⟨ha.1, by omega⟩, ⟨hb.1, by omega⟩, ⟨hc.1, by omega⟩, h.v0, h.v1, h.one, h.two, h.three, ?_, ?_, h.ext⟩
  · rw [wdt_append ha.2, wdt_append hb.2]; exact h.ar
  · rw [wdt_append ha.2, wdt_append hb.2, wdt_append hc.2]; exact h.ite
theorem WF.at_ {ns : List Nd} (h : WF ns) {i : Nat} {n : Nd} (hi : ns[i]? = some n) : NW ns n := by
  have := (h i n hi).more (l := ns.drop i)
  rwa [List.take_append_drop] at this
theorem WF.below {ns : List Nd} (h : WF ns) {x : Int} {n : Nd} (hn : nd ns x = some n) : n.a < x ∧ n.b < x ∧ n.c < x ∧ 0 ≤ n.a ∧ 0 ≤ n.b ∧ 0 ≤ n.c := by
  obtain ⟨h0, h1, h2⟩ := nd_pos hn
  have k := h _ n h2
  have ha := k.pa; have hb := k.pb; have hc := k.pc
  unfold part at ha hb hc
  have L : (ns.take (x - 1).toNat).length ≤ (x - 1).toNat := List.length_take_le _ _
  omega
theorem WF.snoc {ns : List Nd} (h : WF ns) {n : Nd} (hn : NW ns n) : WF (ns ++ [n]) := by
  intro i m hi
  by_cases hl : i < ns.length
  · rw [List.getElem?_append_left hl] at hi
    rw [List.take_append_of_le_length (by omega)]
    exact h i m hi
  · rw [List.getElem?_append_right (by omega)] at hi
    have : i - ns.length = 0 := by
      have := (List.getElem?_eq_some_iff.1 hi).1
      simp at this; omega
    have e : i = ns.length := by omega
    subst e
    simp at hi
    subst hi
    rw [List.take_left]
    exact hn
theorem WF.nil : WF [] := fun i n h => by simp at h
theorem NW.nd {ns : List Nd} (h : WF ns) {x : Int} {n : Nd} (hn : nd ns x = some n) : NW ns n := h.at_ (nd_pos hn).2.2

theorem nv_congr {W W' U U' : Int → Int} {env : List Int} {n : Nd} (hw : W n.a = W' n.a) (ha : U n.a = U' n.a) (hb : U n.b = U' n.b) (hc : U n.c = U' n.c) : nv W U env n = nv W' U' env n := by
  unfold nv; rw [hw, ha, hb, hc]
theorem tv_stable {ns : List Nd} (h : WF ns) (env : List Int) : ∀ (f : Nat) (x : Int), x ≤ f → tv ns env f x = V ns env x := by
  intro f
  induction f using Nat.strongRecOn with
  | _ f ih =>
    intro x hx
    unfold V
    cases hn : nd ns x with
    | none => cases f <;> cases hk : x.toNat <;> simp [tv, hn]
    | some n =>
      obtain ⟨h0, _, _⟩ := nd_pos hn
      obtain ⟨k1, k2, k3, _⟩ := h.below hn
      obtain ⟨g, rfl⟩ : ∃ g, f = g + 1 := ⟨f - 1, by omega⟩
      obtain ⟨m, hm⟩ : ∃ m, x.toNat = m + 1 := ⟨x.toNat - 1, by omega⟩
      rw [hm]
      simp only [tv, hn]
      refine nv_congr rfl ?_ ?_ ?_
      · rw [ih g (by omega) _ (by omega)]
        by_cases e : m < g + 1
        · rw [ih m e _ (by omega)]
        · rw [show m = g by omega, ih g (by omega) _ (by omega)]
      · rw [ih g (by omega) _ (by omega)]
        by_cases e : m < g + 1
        · rw [ih m e _ (by omega)]
        · rw [show m = g by omega, ih g (by omega) _ (by omega)]
      · rw [ih g (by omega) _ (by omega)]
        by_cases e : m < g + 1
        · rw [ih m e _ (by omega)]
        · rw [show m = g by omega, ih g (by omega) _ (by omega)]
theorem V_of {ns : List Nd} (h : WF ns) (env : List Int) {x : Int} {n : Nd} (hn : nd ns x = some n) : V ns env x = nv (wdt ns) (V ns env) env n := by
  obtain ⟨h0, _, _⟩ := nd_pos hn
  obtain ⟨k1, k2, k3, _⟩ := h.below hn
  obtain ⟨m, hm⟩ : ∃ m, x.toNat = m + 1 := ⟨x.toNat - 1, by omega⟩
  have : V ns env x = nv (wdt ns) (tv ns env m) env n := by unfold V; rw [hm]; simp only [tv, hn]
  rw [this]
  exact nv_congr rfl (tv_stable h env m _ (by omega)) (tv_stable h env m _ (by omega)) (tv_stable h env m _ (by omega))
theorem V_none {ns : List Nd} (env : List Int) {x : Int} (h : ¬ isT ns x) : V ns env x = 0 := by
  unfold V; cases x.toNat <;> simp [tv, nd_none h]
theorem tv_append {ns l : List Nd} (h : WF (ns ++ l)) (env : List Int) : ∀ (f : Nat) (x : Int), x ≤ f → x ≤ ns.length → tv (ns ++ l) env f x = tv ns env f x := by
  intro f
  induction f with
  | zero => intro x _ _; rfl
  | succ f ih =>
    intro x hx hl
    simp only [tv]
    rw [nd_append hl]
    cases hn : nd ns x with
    | none => rfl
    | some n =>
      obtain ⟨k1, k2, k3, _⟩ := h.below (by rw [nd_append hl]; exact hn)
      exact nv_congr (wdt_append (by omega)) (ih _ (by omega) (by omega)) (ih _ (by omega) (by omega)) (ih _ (by omega) (by omega))
theorem V_append {ns l : List Nd} (h : WF (ns ++ l)) (env : List Int) {x : Int} (hl : x ≤ ns.length) : V (ns ++ l) env x = V ns env x := by
  unfold V
  by_cases h0 : 0 ≤ x
  · exact tv_append h env _ _ (by omega) hl
  · rw [show x.toNat = 0 by omega]; rfl

/-! ### What stands in a term -/
theorem ti_stable {ns : List Nd} (h : WF ns) : ∀ (f : Nat) (x : Int), x ≤ f → ti ns f x = Iv ns x := by
  intro f
  induction f using Nat.strongRecOn with
  | _ f ih =>
    intro x hx
    unfold Iv
    cases hn : nd ns x with
    | none => cases f <;> cases hk : x.toNat <;> simp [ti, hn]
    | some n =>
      obtain ⟨h0, _, _⟩ := nd_pos hn
      obtain ⟨k1, k2, k3, _⟩ := h.below hn
      obtain ⟨g, rfl⟩ : ∃ g, f = g + 1 := ⟨f - 1, by omega⟩
      obtain ⟨m, hm⟩ : ∃ m, x.toNat = m + 1 := ⟨x.toNat - 1, by omega⟩
      rw [hm]
      simp only [ti, hn]
      have key : ∀ p : Int, p < x → ti ns g p = ti ns m p := by
        intro p hp
        rw [ih g (by omega) _ (by omega)]
        by_cases e : m < g + 1
        · rw [ih m e _ (by omega)]
        · rw [show m = g by omega, ih g (by omega) _ (by omega)]
      unfold niv
      rw [key _ k1, key _ k2, key _ k3]
theorem Iv_of {ns : List Nd} (h : WF ns) {x : Int} {n : Nd} (hn : nd ns x = some n) : Iv ns x = niv (Iv ns) n := by
  obtain ⟨h0, _, _⟩ := nd_pos hn
  obtain ⟨k1, k2, k3, _⟩ := h.below hn
  obtain ⟨m, hm⟩ : ∃ m, x.toNat = m + 1 := ⟨x.toNat - 1, by omega⟩
  have : Iv ns x = niv (ti ns m) n := by unfold Iv; rw [hm]; simp only [ti, hn]
  rw [this]
  unfold niv
  rw [ti_stable h m _ (by omega), ti_stable h m _ (by omega), ti_stable h m _ (by omega)]
theorem Iv_none {ns : List Nd} {x : Int} (h : ¬ isT ns x) : Iv ns x = 0 := by
  unfold Iv; cases x.toNat <;> simp [ti, nd_none h]
theorem ti_append {ns l : List Nd} (h : WF (ns ++ l)) : ∀ (f : Nat) (x : Int), x ≤ f → x ≤ ns.length → ti (ns ++ l) f x = ti ns f x := by
  intro f
  induction f with
  | zero => intro x _ _; rfl
  | succ f ih =>
    intro x hx hl
    simp only [ti]
    rw [nd_append hl]
    cases hn : nd ns x with
    | none => rfl
    | some n =>
      obtain ⟨k1, k2, k3, _⟩ := h.below (by rw [nd_append hl]; exact hn)
      simp only [niv]
      rw [ih _ (by omega) (by omega), ih _ (by omega) (by omega), ih _ (by omega) (by omega)]
theorem Iv_append {ns l : List Nd} (h : WF (ns ++ l)) {x : Int} (hl : x ≤ ns.length) : Iv (ns ++ l) x = Iv ns x := by
  unfold Iv
  by_cases h0 : 0 ≤ x
  · exact ti_append h _ _ (by omega) hl
  · rw [show x.toNat = 0 by omega]; rfl
theorem Iv_lt {ns : List Nd} (h : WF ns) : ∀ (k : Nat) (x : Int), x ≤ k → Iv ns x < 2 ^ 64 := by
  intro k
  induction k with
  | zero => intro x hx; rw [Iv_none (by unfold isT; omega)]; decide
  | succ k ih =>
    intro x hx
    by_cases ht : isT ns x
    · obtain ⟨n, hn, hn'⟩ := nd_some ht
      obtain ⟨k1, k2, k3, _⟩ := h.below hn
      rw [Iv_of h hn]
      unfold niv
      split
      · rename_i h2
        have := ((h.at_ hn').two h2).1
        have h0 := (h.at_ hn').v0
        rw [Nat.one_shiftLeft]
        exact Nat.pow_lt_pow_right (by decide) (by omega)
      · exact Nat.or_lt_two_pow (Nat.or_lt_two_pow (ih _ (by omega)) (ih _ (by omega))) (ih _ (by omega))
    · rw [Iv_none ht]; decide
/-- What does not stand in a term changes nothing of its value. -/
theorem V_dep {ns : List Nd} (h : WF ns) (env env' : List Int) : ∀ (k : Nat) (x : Int), x ≤ k → (∀ i : Nat, i < 64 → (Iv ns x).testBit i = true → env.getD i 0 = env'.getD i 0) → V ns env x = V ns env' x := by
  intro k
  induction k with
  | zero => intro x hx _; rw [V_none env (by unfold isT; omega), V_none env' (by unfold isT; omega)]
  | succ k ih =>
    intro x hx he
    by_cases ht : isT ns x
    · obtain ⟨n, hn, hn'⟩ := nd_some ht
      obtain ⟨k1, k2, k3, _⟩ := h.below hn
      rw [Iv_of h hn] at he
      rw [V_of h env hn, V_of h env' hn]
      by_cases h2 : n.op = 2
      · have hv := ((h.at_ hn').two h2).1
        have h0 := (h.at_ hn').v0
        have := he n.val.toNat (by omega) (by unfold niv; rw [if_pos h2, Nat.one_shiftLeft]; exact Nat.testBit_two_pow_self)
        unfold nv
        rw [this]
        simp [h2]
      · have e : ∀ p : Int, (p = n.a ∨ p = n.b ∨ p = n.c) → V ns env p = V ns env' p := by
          intro p hp
          refine ih p (by omega) fun i hi hb => he i hi ?_
          unfold niv
          rw [if_neg h2, Nat.testBit_or, Nat.testBit_or]
          rcases hp with rfl | rfl | rfl <;> simp [hb]
        unfold nv
        rw [e n.a (.inl rfl), e n.b (.inr (.inl rfl)), e n.c (.inr (.inr rfl)), if_neg h2, if_neg h2]
    · rw [V_none env ht, V_none env' ht]

/-! ### Values lie within their widths -/
theorem wdt_may {ns : List Nd} (h : WF ns) {x : Int} (hx : isT ns x) : mayw (wdt ns x) := by
  obtain ⟨n, hn, hn'⟩ := nd_some hx
  rw [wdt_of hn]; exact (h.at_ hn').mw
theorem outV_may {op w : Int} (hw : mayw w) : mayw (outV op w) := by unfold outV; split; exact .inl rfl; split; exact .inl rfl; exact hw
theorem doM_out {w : Int} (hw : mayw w) (op a b : Int) (h1 : op ≤ 15) : 0 ≤ doM op w (low w a) (low w b) ∧ doM op w (low w a) (low w b) < pw (outV op w) := by
  have k := doM_bd hw op a b
  have bl := fun (x : Bool) => show 0 ≤ bitV x ∧ bitV x < pw 1 by cases x <;> decide
  refine ⟨k.1, ?_⟩
  unfold outV
  by_cases h14 : op = 14
  · rw [if_pos h14]; subst h14; exact (bl _).2
  · by_cases h15 : op = 15
    · rw [if_neg h14, if_pos h15]; subst h15; exact (bl _).2
    · rw [if_neg h14, if_neg h15]; exact k.2
theorem V_bd {ns : List Nd} (h : WF ns) (env : List Int) : ∀ (k : Nat) (x : Int), x ≤ k → isT ns x → 0 ≤ V ns env x ∧ V ns env x < pw (wdt ns x) := by
  intro k
  induction k with
  | zero => intro x hx ht; unfold isT at ht; omega
  | succ k ih =>
    intro x hx ht
    obtain ⟨n, hn, hn'⟩ := nd_some ht
    obtain ⟨k1, k2, k3, _⟩ := h.below hn
    have N := h.at_ hn'
    have hpa := N.pa; have hpb := N.pb; have hpc := N.pc
    unfold part at hpa hpb hpc
    rw [V_of h env hn, wdt_of hn]
    unfold nv
    by_cases h1 : n.op = 1
    · rw [if_pos h1]; exact ⟨N.v0, (N.one h1).1⟩
    rw [if_neg h1]
    by_cases h2 : n.op = 2
    · rw [if_pos h2]; have := low_bd N.mw (env.getD n.val.toNat 0); exact ⟨this.1, this.2.2⟩
    rw [if_neg h2]
    obtain ⟨_, ha1⟩ := N.three h1 h2
    by_cases h16 : n.op = 16
    · rw [if_pos h16]
      obtain ⟨b1, c1, wa, wb, wc⟩ := N.ite h16
      split
      · have := ih n.b (by omega) ⟨b1, hpb.2⟩; rwa [wb] at this
      · have := ih n.c (by omega) ⟨c1, hpc.2⟩; rwa [wc] at this
    rw [if_neg h16]
    by_cases h17 : n.op = 17 ∨ n.op = 18
    · rw [if_pos h17]; have := low_bd N.mw (V ns env n.a); exact ⟨this.1, this.2.2⟩
    rw [if_neg h17]
    have o0 := N.op0; have o1 := N.op1
    rw [(N.ar (by omega) (by omega)).1]
    exact doM_out (wdt_may h ⟨ha1, hpa.2⟩) _ _ _ (by omega)
theorem V_val {ns : List Nd} (h : WF ns) (env : List Int) {x : Int} (hx : isT ns x) : 0 ≤ V ns env x ∧ V ns env x < pw (wdt ns x) ∧ V ns env x ≤ 65535 := by
  have := V_bd h env x.toNat x (by omega) hx
  have := pw_bd (wdt_may h hx)
  omega
theorem V_u16 {ns : List Nd} (h : WF ns) (env : List Int) (x : Int) : 0 ≤ V ns env x ∧ V ns env x ≤ 65535 := by
  by_cases ht : isT ns x
  · have := V_val h env ht; omega
  · rw [V_none env ht]; decide
theorem nv_bd {ns : List Nd} (h : WF ns) (env : List Int) {n : Nd} (hn : NW ns n) : 0 ≤ nv (wdt ns) (V ns env) env n ∧ nv (wdt ns) (V ns env) env n < pw n.w := by
  have hw := h.snoc hn
  have hx : nd (ns ++ [n]) ((ns.length : Int) + 1) = some n := nd_cast (by simp)
  have ht : isT (ns ++ [n]) ((ns.length : Int) + 1) := ⟨by omega, by simp⟩
  have k := V_val hw env ht
  rw [V_of hw env hx, wdt_of hx] at k
  have e : nv (wdt (ns ++ [n])) (V (ns ++ [n]) env) env n = nv (wdt ns) (V ns env) env n :=
    nv_congr (wdt_append hn.pa.2) (V_append hw env hn.pa.2) (V_append hw env hn.pb.2) (V_append hw env hn.pc.2)
  rw [e] at k
  exact ⟨k.1, k.2.1⟩
theorem V_last {ns : List Nd} (h : WF ns) (env : List Int) {n : Nd} (hn : NW ns n) : V (ns ++ [n]) env ((ns.length : Int) + 1) = nv (wdt ns) (V ns env) env n := by
  have hw := h.snoc hn
  rw [V_of hw env (nd_cast (n := n) (by simp))]
  exact nv_congr (wdt_append hn.pa.2) (V_append hw env hn.pa.2) (V_append hw env hn.pb.2) (V_append hw env hn.pc.2)
theorem Iv_last {ns : List Nd} (h : WF ns) {n : Nd} (hn : NW ns n) : Iv (ns ++ [n]) ((ns.length : Int) + 1) = niv (Iv ns) n := by
  have hw := h.snoc hn
  rw [Iv_of hw (nd_cast (n := n) (by simp))]
  unfold niv
  rw [Iv_append hw hn.pa.2, Iv_append hw hn.pb.2, Iv_append hw hn.pc.2]

/-- A Const's value hangs on nothing. -/
def isC (ns : List Nd) (x : Int) : Prop := ∃ n, nd ns x = some n ∧ n.op = 1
theorem V_const {ns : List Nd} (h : WF ns) (env : List Int) {x : Int} {n : Nd} (hn : nd ns x = some n) (h1 : n.op = 1) : V ns env x = n.val := by
  rw [V_of h env hn]; unfold nv; rw [if_pos h1]
/-- A node that would not fold. -/
structure NormN (ns : List Nd) (n : Nd) : Prop where
  k : 3 ≤ n.op → ¬ ((isT ns n.a → isC ns n.a) ∧ (isT ns n.b → isC ns n.b) ∧ (isT ns n.c → isC ns n.c))
  i : n.op = 16 → ¬ isC ns n.a
  e : n.op = 17 → wdt ns n.a < n.w
  c : n.op = 18 → n.w < wdt ns n.a
/-- No node would fold. -/
def NormA (ns : List Nd) : Prop := ∀ (i : Nat) (n : Nd), ns[i]? = some n → NormN ns n
theorem part_more {ns l : List Nd} {p : Int} (hp : part ns p) : (isT (ns ++ l) p ↔ isT ns p) ∧ (isC (ns ++ l) p ↔ isC ns p) ∧ wdt (ns ++ l) p = wdt ns p := by
  refine ⟨⟨fun h => ⟨h.1, hp.2⟩, fun h => ⟨h.1, by have := h.2; rw [List.length_append]; omega⟩⟩, ?_, wdt_append hp.2⟩
  unfold isC; rw [nd_append hp.2]
theorem NormN.more {ns l : List Nd} {n : Nd} (h : NormN ns n) (hn : NW ns n) : NormN (ns ++ l) n := by
  obtain ⟨a1, a2, a3⟩ := part_more (l := l) hn.pa
  obtain ⟨b1, b2, b3⟩ := part_more (l := l) hn.pb
  obtain ⟨c1, c2, c3⟩ := part_more (l := l) hn.pc
  refine ⟨fun h3 => ?_, fun e => ?_, fun e => ?_, fun e => ?_⟩
  · rw [a1, a2, b1, b2, c1, c2]; exact h.k h3
  · rw [a2]; exact h.i e
  · rw [a3]; exact h.e e
  · rw [a3]; exact h.c e
theorem NormA.nil : NormA [] := fun i n h => by simp at h
theorem NormA.snoc {ns : List Nd} {n : Nd} (h : NormA ns) (hwf : WF ns) (hn : NW ns n) (hnn : NormN ns n) : NormA (ns ++ [n]) := by
  intro i m hi
  by_cases hl : i < ns.length
  · rw [List.getElem?_append_left hl] at hi
    exact (h i m hi).more (hwf.at_ hi)
  · rw [List.getElem?_append_right (by omega)] at hi
    have : i - ns.length = 0 := by
      have := (List.getElem?_eq_some_iff.1 hi).1
      simp at this; omega
    rw [this] at hi
    simp at hi
    subst hi
    exact hnn.more hn
end Go.Proofs.YtgbmiphaabeodaaDoor
