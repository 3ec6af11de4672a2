/-
  Terms as trees: what a term is, whatever its number; its value, its width, what stands in it; trees with numbers in the place of variables. Plain mathematics.
-/
import Derived.Test.YtgbmiphaabeodaaDoorTermM
namespace Go.Proofs.YtgbmiphaabeodaaDoor
open Go.RowKit
set_option linter.unusedVariables false

inductive Tr where
  | o : Tr
  | n (op w val : Int) (a b c : Tr) : Tr
namespace Tr
def w : Tr → Int | .o => 0 | .n _ w _ _ _ _ => w
def cst : Tr → Bool | .o => false | .n op _ _ _ _ _ => op == 1
def kid : Tr → Bool | .o => true | .n op _ _ _ _ _ => op == 1
def ev (env : List Int) : Tr → Int
  | .o => 0
  | .n op w val a b c => if op = 1 then val else if op = 2 then low w (env.getD val.toNat 0) else if op = 16 then (if a.ev env = 1 then b.ev env else c.ev env)
    else if op = 17 ∨ op = 18 then low w (a.ev env) else doM op a.w (low a.w (a.ev env)) (low a.w (b.ev env))
def iv : Tr → Nat
  | .o => 0
  | .n op _ val a b c => if op = 2 then 1 <<< val.toNat else (a.iv ||| b.iv) ||| c.iv
structure Ok1 (op w val : Int) (a b c : Tr) : Prop where
  mw : mayw w
  o0 : 1 ≤ op
  o1 : op ≤ 18
  v0 : 0 ≤ val
  v1 : val ≤ 65535
  one : op = 1 → val < pw w ∧ a = .o ∧ b = .o ∧ c = .o
  two : op = 2 → val < 64 ∧ a = .o ∧ b = .o ∧ c = .o
  three : op ≠ 1 → op ≠ 2 → val = 0 ∧ a ≠ .o
  ar : 3 ≤ op → op ≤ 15 → w = outV op a.w ∧ c = .o ∧ (op = 3 → b = .o) ∧ (op ≠ 3 → b ≠ .o ∧ b.w = a.w)
  ite : op = 16 → b ≠ .o ∧ c ≠ .o ∧ a.w = 1 ∧ b.w = w ∧ c.w = w
  ext : op = 17 ∨ op = 18 → b = .o ∧ c = .o
def wf : Tr → Prop
  | .o => True
  | .n op w val a b c => Ok1 op w val a b c ∧ a.wf ∧ b.wf ∧ c.wf
structure Nrm1 (op w : Int) (a b c : Tr) : Prop where
  k : 3 ≤ op → (a.kid && b.kid && c.kid) = false
  i : op = 16 → a.cst = false
  e : op = 17 → a.w < w
  c : op = 18 → w < a.w
def nrm : Tr → Prop
  | .o => True
  | .n op w val a b c => Nrm1 op w a b c ∧ a.nrm ∧ b.nrm ∧ c.nrm
theorem w_may {t : Tr} (h : t.wf) (h0 : t ≠ .o) : mayw t.w := by
  cases t with
  | o => exact absurd rfl h0
  | n op w val a b c => exact h.1.mw
theorem ev_bd (env : List Int) : ∀ {t : Tr}, t.wf → t ≠ .o → 0 ≤ t.ev env ∧ t.ev env < pw t.w
  | .o, _, h0 => absurd rfl h0
  | .n op w val a b c, ⟨h, ha, hb, hc⟩, _ => by
    show 0 ≤ (Tr.n op w val a b c).ev env ∧ (Tr.n op w val a b c).ev env < pw w
    unfold ev
    by_cases h1 : op = 1
    · rw [if_pos h1]; exact ⟨h.v0, (h.one h1).1⟩
    rw [if_neg h1]
    by_cases h2 : op = 2
    · rw [if_pos h2]; have := low_bd h.mw (env.getD val.toNat 0); exact ⟨this.1, this.2.2⟩
    rw [if_neg h2]
    have ha0 := (h.three h1 h2).2
    by_cases h16 : op = 16
    · rw [if_pos h16]
      obtain ⟨b0, c0, _, wb, wc⟩ := h.ite h16
      split
      · have := ev_bd env hb b0; rwa [wb] at this
      · have := ev_bd env hc c0; rwa [wc] at this
    rw [if_neg h16]
    by_cases h17 : op = 17 ∨ op = 18
    · rw [if_pos h17]; have := low_bd h.mw (a.ev env); exact ⟨this.1, this.2.2⟩
    rw [if_neg h17]
    have o0 := h.o0; have o1 := h.o1
    rw [(h.ar (by omega) (by omega)).1]
    exact doM_out (w_may ha ha0) _ _ _ (by omega)
theorem cst_ev {t : Tr} (h : t.cst = true) (env env' : List Int) : t.ev env = t.ev env' := by
  cases t with
  | o => cases h
  | n op w val a b c => have : op = 1 := by simpa [cst] using h
                        unfold ev; rw [if_pos this, if_pos this]
theorem kid_ev {t : Tr} (h : t.kid = true) (env env' : List Int) : t.ev env = t.ev env' := by
  cases t with
  | o => rfl
  | n op w val a b c => exact cst_ev (t := .n op w val a b c) h env env'
theorem cst_kid {t : Tr} (h : t.cst = true) : t.kid = true := by cases t; rfl; exact h
/-! ### Trees with less in them -/
def mkC (w v : Int) : Tr := .n 1 w v .o .o .o
def mk (op w : Int) (a b c : Tr) : Tr := if (a.kid && b.kid && c.kid) = true then mkC w (low w ((Tr.n op w 0 a b c).ev [])) else .n op w 0 a b c
def mkIte (c a b : Tr) : Tr := if c.cst = true then (if c.ev [] = 1 then a else b) else mk 16 a.w c a b
def mkX (op w : Int) (a : Tr) : Tr := if w = a.w then a else mk op w a .o .o
def sub (g : Nat → Option Int) : Tr → Tr
  | .o => .o
  | .n op w val a b c => if op = 1 then .n 1 w val .o .o .o else if op = 2 then (match g val.toNat with | some v => mkC w (low w v) | none => .n 2 w val .o .o .o)
    else if op = 16 then mkIte (a.sub g) (b.sub g) (c.sub g) else if op = 17 ∨ op = 18 then mkX op w (a.sub g) else mk op (outV op (a.sub g).w) (a.sub g) (b.sub g) .o
/-- env' is env with g's numbers in it. -/
def Agree (g : Nat → Option Int) (env env' : List Int) : Prop := ∀ i : Nat, i < 64 → env'.getD i 0 = (match g i with | some v => v | none => env.getD i 0)
theorem mkC_wf {w v : Int} (hw : mayw w) (h0 : 0 ≤ v) (h1 : v < pw w) : (mkC w v).wf := by
  have := pw_bd hw
  refine ⟨⟨hw, by decide, by decide, h0, by omega, fun _ => ⟨h1, rfl, rfl, rfl⟩, fun h => by omega, fun h => absurd rfl h, fun h => by omega, fun h => by omega, fun h => by omega⟩, trivial, trivial, trivial⟩
theorem mk_ev {op w : Int} {a b c : Tr} (h : (Tr.n op w 0 a b c).wf) (h3 : 3 ≤ op) (env : List Int) : (mk op w a b c).ev env = (Tr.n op w 0 a b c).ev env := by
  unfold mk
  split
  · rename_i hk
    simp only [Bool.and_eq_true] at hk
    obtain ⟨⟨ka, kb⟩, kc⟩ := hk
    have hb := ev_bd [] h (by intro e; cases e)
    have e1 : low w ((Tr.n op w 0 a b c).ev []) = (Tr.n op w 0 a b c).ev [] := Int.emod_eq_of_lt hb.1 hb.2
    rw [e1]
    show (Tr.n 1 w ((Tr.n op w 0 a b c).ev []) .o .o .o).ev env = _
    rw [show (Tr.n 1 w ((Tr.n op w 0 a b c).ev []) .o .o .o).ev env = (Tr.n op w 0 a b c).ev [] from by rw [ev, if_pos rfl]]
    have n1 : ¬ op = 1 := by omega
    have n2 : ¬ op = 2 := by omega
    simp only [ev, if_neg n1, if_neg n2, kid_ev ka [] env, kid_ev kb [] env, kid_ev kc [] env]
  · rfl
theorem mk_wf {op w : Int} {a b c : Tr} (h : (Tr.n op w 0 a b c).wf) : (mk op w a b c).wf := by
  unfold mk
  split
  · have := low_bd h.1.mw ((Tr.n op w 0 a b c).ev [])
    exact mkC_wf h.1.mw this.1 this.2.2
  · exact h
theorem mk_w (op w : Int) (a b c : Tr) : (mk op w a b c).w = w := by unfold mk; split <;> rfl
theorem mk_ne (op w : Int) (a b c : Tr) : mk op w a b c ≠ .o := by unfold mk; split <;> (intro e; cases e)
theorem mkC_ne (w v : Int) : mkC w v ≠ .o := fun e => by cases e
structure SubOk (g : Nat → Option Int) (t s : Tr) : Prop where
  wf : s.wf
  w : s.w = t.w
  ne : t ≠ .o → s ≠ .o
  ev : ∀ env env', Agree g env env' → s.ev env = t.ev env'
theorem SubOk.same {g : Nat → Option Int} {t s : Tr} (h : SubOk g t s) {u : Tr} (e : u = s) : SubOk g t u := e ▸ h
theorem sub_ok (g : Nat → Option Int) : ∀ {t : Tr}, t.wf → SubOk g t (t.sub g)
  | .o, _ => ⟨trivial, rfl, fun h => absurd rfl h, fun _ _ _ => rfl⟩
  | .n op w val a b c, ⟨h, ha, hb, hc⟩ => by
    have A := sub_ok g ha
    have B := sub_ok g hb
    have C := sub_ok g hc
    have o0 := h.o0; have o1 := h.o1
    rw [sub]
    by_cases h1 : op = 1
    · rw [if_pos h1]
      subst h1
      obtain ⟨k, rfl, rfl, rfl⟩ := h.one rfl
      exact ⟨⟨h, trivial, trivial, trivial⟩, rfl, fun _ e => (by cases e), fun env env' _ => by rw [ev, if_pos rfl, ev, if_pos rfl]⟩
    rw [if_neg h1]
    by_cases h2 : op = 2
    · rw [if_pos h2]
      subst h2
      obtain ⟨k, rfl, rfl, rfl⟩ := h.two rfl
      have v0 := h.v0
      cases hg : g val.toNat with
      | some v =>
        have := low_bd h.mw v
        refine ⟨mkC_wf h.mw this.1 this.2.2, rfl, fun _ => mkC_ne _ _, fun env env' he => ?_⟩
        have := he val.toNat (by omega)
        rw [hg] at this
        show (Tr.n 1 w (low w v) .o .o .o).ev env = _
        rw [ev, if_pos rfl, ev, if_neg (by decide), if_pos rfl, this]
      | none =>
        refine ⟨⟨h, trivial, trivial, trivial⟩, rfl, fun _ e => (by cases e), fun env env' he => ?_⟩
        have := he val.toNat (by omega)
        rw [hg] at this
        rw [ev, if_neg (by decide), if_pos rfl, ev, if_neg (by decide), if_pos rfl, this]
    rw [if_neg h2]
    obtain ⟨hv, ha0⟩ := h.three h1 h2
    subst hv
    by_cases h16 : op = 16
    · rw [if_pos h16]
      subst h16
      obtain ⟨b0, c0, wa, wb, wc⟩ := h.ite rfl
      have k1 : ∀ env env', Agree g env env' → (Tr.n 16 w 0 a b c).ev env' = if (a.sub g).ev env = 1 then (b.sub g).ev env else (c.sub g).ev env := fun env env' he => by
        rw [ev, if_neg (by decide), if_neg (by decide), if_pos rfl, A.ev env env' he, B.ev env env' he, C.ev env env' he]
      unfold mkIte
      by_cases hk : (a.sub g).cst = true
      · rw [if_pos hk]
        by_cases hv : (a.sub g).ev [] = 1
        · rw [if_pos hv]
          exact ⟨B.wf, B.w.trans wb, fun _ => B.ne b0, fun env env' he => by rw [k1 env env' he, if_pos (by rw [cst_ev hk env []]; exact hv)]⟩
        · rw [if_neg hv]
          exact ⟨C.wf, C.w.trans wc, fun _ => C.ne c0, fun env env' he => by rw [k1 env env' he, if_neg (by rw [cst_ev hk env []]; exact hv)]⟩
      · rw [if_neg hk]
        have W : (Tr.n 16 (b.sub g).w 0 (a.sub g) (b.sub g) (c.sub g)).wf := ⟨⟨by rw [B.w, wb]; exact h.mw, by decide, by decide, by decide, by decide, fun e => by omega, fun e => by omega, fun _ _ => ⟨rfl, A.ne ha0⟩, fun _ e => by omega,
          fun _ => ⟨B.ne b0, C.ne c0, A.w.trans wa, rfl, by rw [C.w, wc, B.w, wb]⟩, fun e => by omega⟩, A.wf, B.wf, C.wf⟩
        refine ⟨mk_wf W, (mk_w _ _ _ _ _).trans (B.w.trans wb), fun _ => mk_ne _ _ _ _ _, fun env env' he => ?_⟩
        rw [mk_ev W (by decide), k1 env env' he, ev, if_neg (by decide), if_neg (by decide), if_pos rfl]
    rw [if_neg h16]
    by_cases h17 : op = 17 ∨ op = 18
    · rw [if_pos h17]
      obtain ⟨rfl, rfl⟩ := h.ext h17
      have k1 : ∀ env env', Agree g env env' → (Tr.n op w 0 a .o .o).ev env' = low w ((a.sub g).ev env) := fun env env' he => by
        rw [ev, if_neg h1, if_neg h2, if_neg h16, if_pos h17, A.ev env env' he]
      unfold mkX
      by_cases hw : w = (a.sub g).w
      · rw [if_pos hw]
        refine ⟨A.wf, hw.symm, fun _ => A.ne ha0, fun env env' he => ?_⟩
        rw [k1 env env' he, hw]
        have := ev_bd env A.wf (A.ne ha0)
        exact (Int.emod_eq_of_lt this.1 this.2).symm
      · rw [if_neg hw]
        have W : (Tr.n op w 0 (a.sub g) .o .o).wf := ⟨⟨h.mw, o0, o1, by decide, by decide, fun e => absurd e h1, fun e => absurd e h2, fun _ _ => ⟨rfl, A.ne ha0⟩, fun _ e => by omega, fun e => absurd e h16, fun _ => ⟨rfl, rfl⟩⟩, A.wf, trivial, trivial⟩
        refine ⟨mk_wf W, mk_w _ _ _ _ _, fun _ => mk_ne _ _ _ _ _, fun env env' he => ?_⟩
        rw [mk_ev W (by omega), k1 env env' he, ev, if_neg h1, if_neg h2, if_neg h16, if_pos h17]
    rw [if_neg h17]
    obtain ⟨hw, rfl, hb3, hbn⟩ := h.ar (by omega) (by omega)
    have W : (Tr.n op (outV op (a.sub g).w) 0 (a.sub g) (b.sub g) .o).wf := ⟨⟨by rw [A.w, ← hw]; exact h.mw, o0, o1, by decide, by decide, fun e => absurd e h1, fun e => absurd e h2, fun _ _ => ⟨rfl, A.ne ha0⟩,
      fun _ _ => ⟨rfl, rfl, fun e => by rw [hb3 e]; rfl, fun e => ⟨B.ne (hbn e).1, by rw [B.w, A.w, (hbn e).2]⟩⟩, fun e => absurd e h16, fun e => absurd e h17⟩, A.wf, B.wf, trivial⟩
    refine ⟨mk_wf W, (mk_w _ _ _ _ _).trans (by rw [A.w]; exact hw.symm), fun _ => mk_ne _ _ _ _ _, fun env env' he => ?_⟩
    rw [mk_ev W (by omega), ev, if_neg h1, if_neg h2, if_neg h16, if_neg h17, ev, if_neg h1, if_neg h2, if_neg h16, if_neg h17, A.w, A.ev env env' he, B.ev env env' he]
theorem sub_const (g : Nat → Option Int) : ∀ {t : Tr}, t.wf → (∀ i : Nat, i < 64 → t.iv.testBit i = true → g i ≠ none) → (t.sub g).kid = true
  | .o, _, _ => rfl
  | .n op w val a b c, ⟨h, ha, hb, hc⟩, hg => by
    have o0 := h.o0; have o1 := h.o1
    rw [sub]
    by_cases h1 : op = 1
    · rw [if_pos h1]; rfl
    rw [if_neg h1]
    by_cases h2 : op = 2
    · rw [if_pos h2]
      have v0 := h.v0
      have := hg val.toNat (by have := (h.two h2).1; omega) (by rw [iv, if_pos h2, Nat.one_shiftLeft]; exact Nat.testBit_two_pow_self)
      cases hg' : g val.toNat with
      | some v => rfl
      | none => exact absurd hg' this
    rw [if_neg h2]
    have hi : ∀ i : Nat, (Tr.n op w val a b c).iv.testBit i = ((a.iv.testBit i || b.iv.testBit i) || c.iv.testBit i) := fun i => by rw [iv, if_neg h2, Nat.testBit_or, Nat.testBit_or]
    have A := sub_const g ha fun i hi' hb' => hg i hi' (by rw [hi, hb']; rfl)
    have B := sub_const g hb fun i hi' hb' => hg i hi' (by rw [hi, hb', Bool.or_true]; rfl)
    have C := sub_const g hc fun i hi' hb' => hg i hi' (by rw [hi, hb', Bool.or_true])
    by_cases h16 : op = 16
    · rw [if_pos h16]
      have AO := sub_ok g ha
      obtain ⟨hv, ha0⟩ := h.three h1 h2
      have hk : (a.sub g).cst = true := by
        cases hs : a.sub g with
        | o => exact absurd hs (AO.ne ha0)
        | n _ _ _ _ _ _ => rw [hs] at A; exact A
      unfold mkIte
      rw [if_pos hk]
      split
      · exact B
      · exact C
    rw [if_neg h16]
    by_cases h17 : op = 17 ∨ op = 18
    · rw [if_pos h17]
      unfold mkX
      split
      · exact A
      · unfold mk; rw [if_pos (by rw [A]; rfl)]; rfl
    rw [if_neg h17]
    unfold mk
    rw [if_pos (by rw [A, B]; rfl)]; rfl
theorem sub_same (g : Nat → Option Int) : ∀ {t : Tr}, t.wf → t.nrm → (∀ i : Nat, i < 64 → t.iv.testBit i = true → g i = none) → t.sub g = t
  | .o, _, _, _ => rfl
  | .n op w val a b c, ⟨h, ha, hb, hc⟩, ⟨k, na, nb, nc⟩, hg => by
    have o0 := h.o0; have o1 := h.o1
    rw [sub]
    by_cases h1 : op = 1
    · rw [if_pos h1]; obtain ⟨_, rfl, rfl, rfl⟩ := h.one h1; rw [h1]
    rw [if_neg h1]
    by_cases h2 : op = 2
    · rw [if_pos h2]
      have v0 := h.v0
      obtain ⟨hv, rfl, rfl, rfl⟩ := h.two h2
      rw [hg val.toNat (by omega) (by rw [iv, if_pos h2, Nat.one_shiftLeft]; exact Nat.testBit_two_pow_self), h2]
    rw [if_neg h2]
    have hi : ∀ i : Nat, (Tr.n op w val a b c).iv.testBit i = ((a.iv.testBit i || b.iv.testBit i) || c.iv.testBit i) := fun i => by rw [iv, if_neg h2, Nat.testBit_or, Nat.testBit_or]
    rw [sub_same g ha na fun i hi' hb' => hg i hi' (by rw [hi, hb']; rfl), sub_same g hb nb fun i hi' hb' => hg i hi' (by rw [hi, hb', Bool.or_true]; rfl), sub_same g hc nc fun i hi' hb' => hg i hi' (by rw [hi, hb', Bool.or_true])]
    obtain ⟨hv, ha0⟩ := h.three h1 h2
    subst hv
    have hk := k.k (by omega)
    by_cases h16 : op = 16
    · rw [if_pos h16]
      unfold mkIte mk
      rw [if_neg (by rw [k.i h16]; decide), if_neg (by rw [hk]; decide), (h.ite h16).2.2.2.1, h16]
    rw [if_neg h16]
    by_cases h17 : op = 17 ∨ op = 18
    · rw [if_pos h17]
      obtain ⟨rfl, rfl⟩ := h.ext h17
      unfold mkX mk
      rw [if_neg (by rcases h17 with e | e; have := k.e e; omega; have := k.c e; omega), if_neg (by rw [hk]; decide)]
    rw [if_neg h17]
    obtain ⟨hw, rfl, _, _⟩ := h.ar (by omega) (by omega)
    unfold mk
    rw [if_neg (by rw [hk]; decide), ← hw]
end Tr
/-! ### The tree of a term -/
def trf (ns : List Nd) : Nat → Int → Tr
  | 0, _ => .o
  | f + 1, x => match nd ns x with | some n => .n n.op n.w n.val (trf ns f n.a) (trf ns f n.b) (trf ns f n.c) | none => .o
def tr (ns : List Nd) (x : Int) : Tr := trf ns x.toNat x
theorem trf_stable {ns : List Nd} (h : WF ns) : ∀ (f : Nat) (x : Int), x ≤ f → trf ns f x = tr ns x := by
  intro f
  induction f using Nat.strongRecOn with
  | _ f ih =>
    intro x hx
    unfold tr
    cases hn : nd ns x with
    | none => cases f <;> cases hk : x.toNat <;> simp [trf, hn]
    | some n =>
      obtain ⟨h0, _, _⟩ := nd_pos hn
      obtain ⟨k1, k2, k3, _⟩ := h.below hn
      obtain ⟨g, rfl⟩ : ∃ g, f = g + 1 := ⟨f - 1, by omega⟩
      obtain ⟨m, hm⟩ : ∃ m, x.toNat = m + 1 := ⟨x.toNat - 1, by omega⟩
      rw [hm]
      simp only [trf, hn]
      have key : ∀ p : Int, p < x → trf ns g p = trf ns m p := by
        intro p hp
        rw [ih g (by omega) _ (by omega)]
        by_cases e : m < g + 1
        · rw [ih m e _ (by omega)]
        · rw [show m = g by omega, ih g (by omega) _ (by omega)]
      rw [key _ k1, key _ k2, key _ k3]
theorem tr_of {ns : List Nd} (h : WF ns) {x : Int} {n : Nd} (hn : nd ns x = some n) : tr ns x = .n n.op n.w n.val (tr ns n.a) (tr ns n.b) (tr ns n.c) := by
  obtain ⟨h0, _, _⟩ := nd_pos hn
  obtain ⟨k1, k2, k3, _⟩ := h.below hn
  obtain ⟨m, hm⟩ : ∃ m, x.toNat = m + 1 := ⟨x.toNat - 1, by omega⟩
  have : tr ns x = .n n.op n.w n.val (trf ns m n.a) (trf ns m n.b) (trf ns m n.c) := by unfold tr; rw [hm]; simp only [trf, hn]
  rw [this, trf_stable h m _ (by omega), trf_stable h m _ (by omega), trf_stable h m _ (by omega)]
theorem tr_none {ns : List Nd} {x : Int} (h : ¬ isT ns x) : tr ns x = .o := by
  unfold tr; cases x.toNat <;> simp [trf, nd_none h]
theorem tr_some {ns : List Nd} (hwf : WF ns) {x : Int} (h : isT ns x) : tr ns x ≠ .o := by
  obtain ⟨n, hn, _⟩ := nd_some h
  rw [tr_of hwf hn]; intro e; cases e
theorem trf_append {ns l : List Nd} (h : WF (ns ++ l)) : ∀ (f : Nat) (x : Int), x ≤ f → x ≤ ns.length → trf (ns ++ l) f x = trf ns f x := by
  intro f
  induction f with
  | zero => intro x _ _; rfl
  | succ f ih =>
    intro x hx hl
    simp only [trf]
    rw [nd_append hl]
    cases hn : nd ns x with
    | none => rfl
    | some n =>
      obtain ⟨k1, k2, k3, _⟩ := h.below (by rw [nd_append hl]; exact hn)
      simp only []
      rw [ih _ (by omega) (by omega), ih _ (by omega) (by omega), ih _ (by omega) (by omega)]
theorem tr_append {ns l : List Nd} (h : WF (ns ++ l)) {x : Int} (hl : x ≤ ns.length) : tr (ns ++ l) x = tr ns x := by
  unfold tr
  by_cases h0 : 0 ≤ x
  · exact trf_append h _ _ (by omega) hl
  · rw [show x.toNat = 0 by omega]; rfl
/-- What holds of a tree's nodes because it holds of an arena's. -/
theorem tr_ind {ns : List Nd} (hwf : WF ns) (P : Int → Prop) (h0 : ∀ x, ¬ isT ns x → P x) (h1 : ∀ x n, nd ns x = some n → P n.a → P n.b → P n.c → P x) : ∀ x, P x := by
  have key : ∀ (k : Nat) (x : Int), x ≤ k → P x := by
    intro k
    induction k with
    | zero => intro x hx; exact h0 x (by unfold isT; omega)
    | succ k ih =>
      intro x hx
      by_cases ht : isT ns x
      · obtain ⟨n, hn, _⟩ := nd_some ht
        obtain ⟨k1, k2, k3, _⟩ := hwf.below hn
        exact h1 x n hn (ih _ (by omega)) (ih _ (by omega)) (ih _ (by omega))
      · exact h0 x ht
  intro x
  exact key x.toNat x (by omega)
theorem tr_w {ns : List Nd} (hwf : WF ns) (x : Int) : (tr ns x).w = wdt ns x := by
  by_cases ht : isT ns x
  · obtain ⟨n, hn, _⟩ := nd_some ht
    rw [tr_of hwf hn, wdt_of hn]; rfl
  · rw [tr_none ht, wdt_none ht]; rfl
theorem tr_ev {ns : List Nd} (hwf : WF ns) (env : List Int) : ∀ x, (tr ns x).ev env = V ns env x :=
  tr_ind hwf _ (fun x h => by rw [tr_none h, V_none env h]; rfl) fun x n hn ha hb hc => by
    rw [tr_of hwf hn, V_of hwf env hn, Tr.ev, ha, hb, hc, tr_w hwf]; rfl
theorem tr_iv {ns : List Nd} (hwf : WF ns) : ∀ x, (tr ns x).iv = Iv ns x :=
  tr_ind hwf _ (fun x h => by rw [tr_none h, Iv_none h]; rfl) fun x n hn ha hb hc => by
    rw [tr_of hwf hn, Iv_of hwf hn, Tr.iv, ha, hb, hc]; rfl
theorem tr_cst {ns : List Nd} (hwf : WF ns) (x : Int) : (tr ns x).cst = true ↔ isC ns x := by
  by_cases ht : isT ns x
  · obtain ⟨n, hn, _⟩ := nd_some ht
    rw [tr_of hwf hn]
    refine ⟨fun h => ⟨n, hn, by simpa [Tr.cst] using h⟩, ?_⟩
    rintro ⟨m, hm, h1⟩
    obtain rfl := Option.some.inj (hn.symm.trans hm)
    simpa [Tr.cst] using h1
  · rw [tr_none ht]
    refine ⟨fun h => (by cases h), ?_⟩
    rintro ⟨m, hm, h1⟩
    exact absurd ⟨(nd_pos hm).1, (nd_pos hm).2.1⟩ ht
theorem tr_kid {ns : List Nd} (hwf : WF ns) (x : Int) : (tr ns x).kid = true ↔ (isT ns x → isC ns x) := by
  by_cases ht : isT ns x
  · have : (tr ns x).kid = (tr ns x).cst := by
      have := tr_some hwf ht
      cases h : tr ns x with
      | o => exact absurd h this
      | n _ _ _ _ _ _ => rfl
    rw [this, tr_cst hwf]
    exact ⟨fun h _ => h, fun h => h ht⟩
  · rw [tr_none ht]
    exact ⟨fun _ h => absurd h ht, fun _ => rfl⟩
theorem part_o {ns : List Nd} (hwf : WF ns) {p : Int} (hp : part ns p) : tr ns p = .o ↔ p = 0 := by
  by_cases h : p = 0
  · subst h
    exact ⟨fun _ => rfl, fun _ => tr_none (by unfold isT; omega)⟩
  · refine ⟨fun e => absurd e (tr_some hwf ⟨?_, hp.2⟩), fun e => absurd e h⟩
    have := hp.1; omega
theorem tr_wf {ns : List Nd} (hwf : WF ns) : ∀ x, (tr ns x).wf :=
  tr_ind hwf _ (fun x h => by rw [tr_none h]; trivial) fun x n hn ha hb hc => by
    rw [tr_of hwf hn]
    have N := NW.nd hwf hn
    have ea := part_o hwf N.pa
    have eb := part_o hwf N.pb
    have ec := part_o hwf N.pc
    refine ⟨⟨N.mw, N.op0, N.op1, N.v0, N.v1, fun h => ?_, fun h => ?_, fun h1 h2 => ?_, fun h3 h15 => ?_, fun h => ?_, fun h => ?_⟩, ha, hb, hc⟩
    · obtain ⟨q, e1, e2, e3⟩ := N.one h; exact ⟨q, ea.2 e1, eb.2 e2, ec.2 e3⟩
    · obtain ⟨q, e1, e2, e3⟩ := N.two h; exact ⟨q, ea.2 e1, eb.2 e2, ec.2 e3⟩
    · obtain ⟨q, e1⟩ := N.three h1 h2; exact ⟨q, fun e => by have := ea.1 e; omega⟩
    · obtain ⟨q, e1, e2, e3⟩ := N.ar h3 h15
      rw [tr_w hwf, tr_w hwf]
      exact ⟨q, ec.2 e1, fun e => eb.2 (e2 e), fun e => ⟨fun k => by have := eb.1 k; have := (e3 e).1; omega, (e3 e).2⟩⟩
    · obtain ⟨q1, q2, q3, q4, q5⟩ := N.ite h
      rw [tr_w hwf, tr_w hwf, tr_w hwf]
      exact ⟨fun k => by have := eb.1 k; omega, fun k => by have := ec.1 k; omega, q3, q4, q5⟩
    · obtain ⟨q1, q2⟩ := N.ext h; exact ⟨eb.2 q1, ec.2 q2⟩
theorem tr_nrm {ns : List Nd} (hwf : WF ns) (hN : NormA ns) : ∀ x, (tr ns x).nrm :=
  tr_ind hwf _ (fun x h => by rw [tr_none h]; trivial) fun x n hn ha hb hc => by
    rw [tr_of hwf hn]
    have N := hN _ n (nd_pos hn).2.2
    refine ⟨⟨fun h => ?_, fun h => ?_, fun h => ?_, fun h => ?_⟩, ha, hb, hc⟩
    · have := N.k h
      rw [← tr_kid hwf, ← tr_kid hwf, ← tr_kid hwf] at this
      rw [Bool.eq_false_iff]
      intro e
      simp only [Bool.and_eq_true] at e
      exact this ⟨e.1.1, e.1.2, e.2⟩
    · have := N.i h
      rw [← tr_cst hwf] at this
      exact Bool.eq_false_iff.2 this
    · rw [tr_w hwf]; exact N.e h
    · rw [tr_w hwf]; exact N.c h
theorem tr_inj {ns : List Nd} (hwf : WF ns) (once : ∀ (i j : Nat) (n : Nd), ns[i]? = some n → ns[j]? = some n → i = j) : ∀ x, isT ns x → ∀ y, isT ns y → tr ns x = tr ns y → x = y :=
  tr_ind hwf _ (fun x h hx => absurd hx h) fun x n hn ha hb hc hx y hy e => by
    obtain ⟨m, hm, _⟩ := nd_some hy
    rw [tr_of hwf hn, tr_of hwf hm] at e
    injection e with e1 e2 e3 e4 e5 e6
    have N := NW.nd hwf hn
    have M := NW.nd hwf hm
    have pt : ∀ p q : Int, part ns p → part ns q → (isT ns p → ∀ y, isT ns y → tr ns p = tr ns y → p = y) → tr ns p = tr ns q → p = q := fun p q hp hq ih e => by
      by_cases h0 : p = 0
      · subst h0
        have := (part_o hwf hp).2 rfl
        exact ((part_o hwf hq).1 (e ▸ this)).symm
      · have hpT : isT ns p := ⟨by have := hp.1; omega, hp.2⟩
        have hqT : isT ns q := by
          by_cases h : isT ns q
          · exact h
          · rw [tr_none h] at e
            exact absurd e (tr_some hwf hpT)
        exact ih hpT q hqT e
    have k1 := pt _ _ N.pa M.pa ha e4
    have k2 := pt _ _ N.pb M.pb hb e5
    have k3 := pt _ _ N.pc M.pc hc e6
    have : n = m := by cases n; cases m; simp_all
    subst this
    have := once _ _ _ (nd_pos hn).2.2 (nd_pos hm).2.2
    have := hx.1; have := hy.1
    omega
end Go.Proofs.YtgbmiphaabeodaaDoor
