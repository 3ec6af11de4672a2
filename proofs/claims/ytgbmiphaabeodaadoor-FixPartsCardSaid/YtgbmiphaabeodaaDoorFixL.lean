/-
  The terms that a term is made of, as a list that grows: plain mathematics.
-/
import Derived.Test.YtgbmiphaabeodaaDoorTermT
import Derived.Test.YtgbmiphaabeodaaDoorTermA
namespace Go.Proofs.YtgbmiphaabeodaaDoor
open Go.RowKit
set_option linter.unusedVariables false

/-- z is x or one of the terms that x is made of. -/
inductive Reach (ns : List Nd) (x : Int) : Int → Prop where
  | refl : Reach ns x x
  | step {z p : Int} {n : Nd} : Reach ns x z → nd ns z = some n → (p = n.a ∨ p = n.b ∨ p = n.c) → 1 ≤ p → Reach ns x p
def InL (l : List Int) (p : Int) : Prop := p = 0 ∨ p ∈ l
theorem InL.more {l : List Int} {p : Int} (h : InL l p) (q : Int) : InL (l ++ [q]) p := h.elim .inl fun h => .inr (List.mem_append_left _ h)
structure Lw (ns : List Nd) (x : Int) (l : List Int) (k : Nat) : Prop where
  x0 : l[0]? = some x
  nodup : l.Nodup
  all : ∀ z ∈ l, 1 ≤ z ∧ z ≤ x ∧ Reach ns x z
  cl : ∀ j, j < k → ∀ z n, l[j]? = some z → nd ns z = some n → InL l n.a ∧ InL l n.b ∧ InL l n.c
structure Li (ns : List Nd) (x : Int) (l : List Int) (k : Nat) (z : Int) (n : Nd) (q : Nat) : Prop where
  lw : Lw ns x l k
  at_ : l[k]? = some z
  nd_ : nd ns z = some n
  up : ∀ j, j < q → InL l (pt n j)
theorem Lw.start {ns : List Nd} {x : Int} (hx : 1 ≤ x) : Lw ns x [x] 0 :=
  ⟨rfl, by simp, fun z hz => by
    have : z = x := by simpa using hz
    subst this
    exact ⟨hx, Int.le_refl _, .refl⟩, fun j hj => absurd hj (Nat.not_lt_zero _)⟩
theorem le_of_nodup : ∀ (n : Nat) (l : List Int), l.Nodup → (∀ z ∈ l, 1 ≤ z ∧ z ≤ (n : Int)) → l.length ≤ n
  | 0, l, _, h => by
    cases l with
    | nil => exact Nat.le_refl _
    | cons a r => have := h a (List.mem_cons_self ..); omega
  | n + 1, l, hd, h => by
    have k := le_of_nodup n (l.erase ((n : Int) + 1)) (hd.erase _) fun z hz => by
      obtain ⟨h1, h2⟩ := (hd.mem_erase_iff).1 hz
      have := h z h2
      have : z ≠ (n : Int) + 1 := h1
      omega
    have := List.length_erase (a := (n : Int) + 1) (l := l)
    split at this <;> omega
theorem Lw.len {ns : List Nd} {x : Int} {l : List Int} {k : Nat} (h : Lw ns x l k) : l.length ≤ x.toNat := by
  have hx := h.all x (List.mem_of_getElem? h.x0)
  exact le_of_nodup x.toNat l h.nodup fun z hz => by have := h.all z hz; omega
theorem Lw.in_ {ns : List Nd} {x : Int} {l : List Int} {k : Nat} (h : Lw ns x l k) {z : Int} {n : Nd} (hz : l[k]? = some z) (hn : nd ns z = some n) : Li ns x l k z n 0 := ⟨h, hz, hn, fun j hj => absurd hj (Nat.not_lt_zero _)⟩
theorem Li.old {ns : List Nd} {x : Int} {l : List Int} {k : Nat} {z : Int} {n : Nd} {q : Nat} (h : Li ns x l k z n q) (hp : InL l (pt n q)) : Li ns x l k z n (q + 1) :=
  ⟨h.lw, h.at_, h.nd_, fun j hj => by
    by_cases e : j = q
    · subst e; exact hp
    · exact h.up j (by omega)⟩
theorem pt_part {ns : List Nd} (hwf : WF ns) {z : Int} {n : Nd} (hn : nd ns z = some n) {q : Nat} (hq : q < 3) : 0 ≤ pt n q ∧ pt n q < z ∧ (pt n q = n.a ∨ pt n q = n.b ∨ pt n q = n.c) := by
  obtain ⟨k1, k2, k3, k4, k5, k6⟩ := hwf.below hn
  rcases pt_cases n hq with ⟨_, e⟩ | ⟨_, e⟩ | ⟨_, e⟩ <;> rw [e]
  · exact ⟨k4, k1, .inl rfl⟩
  · exact ⟨k5, k2, .inr (.inl rfl)⟩
  · exact ⟨k6, k3, .inr (.inr rfl)⟩
theorem Li.new {ns : List Nd} (hwf : WF ns) {x : Int} {l : List Int} {k : Nat} {z : Int} {n : Nd} {q : Nat} (hq : q < 3) (h : Li ns x l k z n q) (hp : ¬ InL l (pt n q)) : Li ns x (l ++ [pt n q]) k z n (q + 1) := by
  obtain ⟨p0, p1, p2⟩ := pt_part hwf h.nd_ hq
  have hz := h.lw.all z (List.mem_of_getElem? h.at_)
  have hne : pt n q ≠ 0 := fun e => hp (.inl e)
  have hk : k < l.length := (List.getElem?_eq_some_iff.1 h.at_).1
  have h0 : 0 < l.length := (List.getElem?_eq_some_iff.1 h.lw.x0).1
  refine ⟨⟨by rw [List.getElem?_append_left h0]; exact h.lw.x0, ?_, fun y hy => ?_, fun j hj y m hy hm => ?_⟩, by rw [List.getElem?_append_left hk]; exact h.at_, h.nd_, fun j hj => ?_⟩
  · rw [List.nodup_append]
    exact ⟨h.lw.nodup, by simp, fun a ha b hb e => by
      have : b = pt n q := by simpa using hb
      subst this; subst e
      exact hp (.inr ha)⟩
  · rcases List.mem_append.1 hy with hy | hy
    · exact h.lw.all y hy
    · have : y = pt n q := by simpa using hy
      subst this
      exact ⟨by omega, by omega, .step hz.2.2 h.nd_ p2 (by omega)⟩
  · rw [List.getElem?_append_left (by omega)] at hy
    obtain ⟨a, b, c⟩ := h.lw.cl j hj y m hy hm
    exact ⟨a.more _, b.more _, c.more _⟩
  · by_cases e : j = q
    · subst e; exact .inr (by simp)
    · exact (h.up j (by omega)).more _
theorem Li.done {ns : List Nd} {x : Int} {l : List Int} {k : Nat} {z : Int} {n : Nd} (h : Li ns x l k z n 3) : Lw ns x l (k + 1) :=
  ⟨h.lw.x0, h.lw.nodup, h.lw.all, fun j hj y m hy hm => by
    by_cases e : j = k
    · subst e
      obtain rfl := Option.some.inj (hy.symm.trans h.at_)
      obtain rfl := Option.some.inj (hm.symm.trans h.nd_)
      exact ⟨h.up 0 (by decide), h.up 1 (by decide), h.up 2 (by decide)⟩
    · exact h.lw.cl j (by omega) y m hy hm⟩
/-- All the terms that x is made of, in order. -/
structure Wl (ns : List Nd) (x : Int) (ls : List Int) : Prop where
  lt : ls.Pairwise (· < ·)
  mem : x ∈ ls
  all : ∀ z ∈ ls, 1 ≤ z ∧ z ≤ x ∧ Reach ns x z
  cl : ∀ z ∈ ls, ∀ n, nd ns z = some n → InL ls n.a ∧ InL ls n.b ∧ InL ls n.c
  len : ls.length ≤ x.toNat
theorem Lw.sorted {ns : List Nd} {x : Int} {l ls : List Int} (h : Lw ns x l l.length) (hp : ls.Perm l) (hs : ls.Pairwise (· ≤ ·)) : Wl ns x ls := by
  have hm : ∀ z, z ∈ ls ↔ z ∈ l := fun z => hp.mem_iff
  have hi : ∀ p, InL l p → InL ls p := fun p hh => hh.elim .inl fun hh => .inr ((hm p).2 hh)
  refine ⟨?_, (hm x).2 (List.mem_of_getElem? h.x0), fun z hz => h.all z ((hm z).1 hz), fun z hz n hn => ?_, by rw [hp.length_eq]; exact h.len⟩
  · have hn : ls.Nodup := hp.nodup_iff.2 h.nodup
    have := List.Pairwise.and hs hn
    exact this.imp fun ⟨h1, h2⟩ => by omega
  · obtain ⟨j, hj⟩ := List.getElem?_of_mem ((hm z).1 hz)
    obtain ⟨a, b, c⟩ := h.cl j (List.getElem?_eq_some_iff.1 hj).1 z n hj hn
    exact ⟨hi _ a, hi _ b, hi _ c⟩
end Go.Proofs.YtgbmiphaabeodaaDoor
