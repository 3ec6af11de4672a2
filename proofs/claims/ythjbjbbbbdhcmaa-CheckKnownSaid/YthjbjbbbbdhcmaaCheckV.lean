/-
  What follows for a program that may run; programs of jumps; programs of pushes and pops. Plain data.
-/
import Derived.Test.YthjbjbbbbdhcmaaCheckM
namespace Go.Proofs.Ythjbjbbbbdhcmaa
set_option linter.unusedVariables false

/-- Answered with no fault: all is well. -/
theorem Is.ok {L : List (Int × Int)} {N : List ByteArray} {k f : Int} {hs : List Int} (h : Is L N k f hs) (hf : f = 0) : k = 0 ∧ Sized L N ∧ Named N ∧ Single L N ∧ (∀ i, ¬ Bad L i) ∧ Hts L hs := by
  cases h with
  | full => exact absurd hf (by decide)
  | name => exact absurd hf (by decide)
  | single _ _ _ q => exact absurd hf q
  | stack => exact absurd hf (by decide)
  | well a b c d e => exact ⟨rfl, a, b, c, d, e⟩
theorem Is.none {L : List (Int × Int)} {N : List ByteArray} {k f : Int} {hs : List Int} (h : Is L N k f hs) (hf : f ≠ 0) : hs = [] := by
  cases h with
  | well => exact absurd rfl hf
  | _ => rfl
theorem fault_ok {n m i : Nat} {x : Int × Int} (h : fault n m i x = 0) : okI x = true ∧ ((x.1 = 22 ∨ x.1 = 23) → x.2 < n) ∧ (x.1 ≠ 22 → x.1 ≠ 26 → i + 1 ≠ n) := by
  unfold fault at h
  split at h
  · cases h
  · rename_i h1
    split at h
    · cases h
    · split at h
      · cases h
      · rename_i h3
        split at h
        · cases h
        · rename_i h4
          refine ⟨by simpa using h1, fun hj => ?_, fun a b e => h4 ⟨⟨a, b⟩, e⟩⟩
          by_cases hn : x.2 < n
          · exact hn
          · exact absurd ⟨hj, by omega⟩ h3
theorem okI_nn {x : Int × Int} (h : okI x = true) : 0 ≤ x.2 := by
  obtain ⟨op, a⟩ := x
  unfold okI mayB at h
  simp only [Bool.and_eq_true, decide_eq_true_eq] at h
  exact h.2.1
section
variable {L : List (Int × Int)} {hs : List Int} {i : Nat} {x : Int × Int} {c : Int}
theorem Hts.get (H : Hts L hs) (hb : ∀ i, ¬ Bad L i) (hi : i < L.length) {h : Nat} (r : Reach L i h) : hs[i]? = some (h : Int) := by
  rcases H.2 i hi with ⟨h', r', e⟩ | ⟨hn, _⟩
  · by_cases q : h' = h
    · rw [e, q]
    · exact absurd ⟨L[i], h, List.getElem?_eq_getElem hi, r, .inr ⟨h', q, r'⟩⟩ (hb i)
  · exact absurd r (hn h)
theorem Hts.inv (H : Hts L hs) (hc : hs[i]? = some c) (h0 : 0 ≤ c) : ∃ h : Nat, c = h ∧ Reach L i h := by
  have hi : i < L.length := by rw [← H.1]; exact (List.getElem?_eq_some_iff.1 hc).1
  rcases H.2 i hi with ⟨h', r', e⟩ | ⟨_, e⟩
  · rw [hc] at e
    injection e with e
    exact ⟨h', e, r'⟩
  · rw [hc] at e
    injection e with e
    omega
theorem Hts.step (H : Hts L hs) (hb : ∀ i, ¬ Bad L i) (hx : L[i]? = some x) (hc : hs[i]? = some c) (h0 : 0 ≤ c) : tkx x ≤ c ∧ c ≤ 16 ∧ ∃ h : Nat, c = h ∧ Reach L i h ∧ stepOk x h ∧ (toH x h : Int) = c - tkx x + gvx x := by
  obtain ⟨h, e, r⟩ := H.inv hc h0
  have hs : stepOk x h := by
    by_cases q : stepOk x h
    · exact q
    · exact absurd ⟨x, h, hx, r, .inl q⟩ (hb i)
  have hg : 0 ≤ gvx x := by
    unfold gvx gv
    have : ∀ j : Nat, 0 ≤ ([0, 1, 0, 2, 2, 1, 1, 1, 1, 1, 1, 1, 1, 1, 1, 1, 1, 1, 1, 0, 1, 0, 0, 0, 0, 0, 0, 1, 1, 1, 1, 1, 1, 1, 1, 1, 1, 1, 1, 1, 1, 1].getD j 0 : Int) := fun j => by
      by_cases hj : j < 42
      · have all : ∀ q : Fin 42, 0 ≤ ([0, 1, 0, 2, 2, 1, 1, 1, 1, 1, 1, 1, 1, 1, 1, 1, 1, 1, 1, 0, 1, 0, 0, 0, 0, 0, 0, 1, 1, 1, 1, 1, 1, 1, 1, 1, 1, 1, 1, 1, 1, 1].getD q.val 0 : Int) := by decide +kernel
        exact all ⟨j, hj⟩
      · rw [List.getD_eq_getElem?_getD, List.getElem?_eq_none (by simp; omega)]
        exact Int.le_refl 0
    exact this _
  refine ⟨by rw [e]; exact hs.1, by have := r.le; omega, h, e, r, hs, ?_⟩
  unfold toH
  have := hs.1
  rw [e]
  omega
theorem Hts.jump (H : Hts L hs) (hb : ∀ i, ¬ Bad L i) {n : List ByteArray} (hS : Single L n) (hx : L[i]? = some x) (hc : hs[i]? = some c) (h0 : 0 ≤ c) (hj : x.1 = 22 ∨ x.1 = 23) : x.2.toNat < L.length ∧ hs[x.2.toNat]? = some (c - tkx x + gvx x) := by
  obtain ⟨_, _, h, e, r, hs', ht⟩ := H.step hb hx hc h0
  obtain ⟨q1, q2, _⟩ := fault_ok (hS i x hx)
  have hn := okI_nn q1
  have hl : x.2.toNat < L.length := by have := q2 hj; omega
  exact ⟨hl, by rw [← ht]; exact H.get hb hl (.jump r hx hs' hj)⟩
theorem Hts.next (H : Hts L hs) (hb : ∀ i, ¬ Bad L i) {n : List ByteArray} (hS : Single L n) (hx : L[i]? = some x) (hc : hs[i]? = some c) (h0 : 0 ≤ c) (h1 : x.1 ≠ 22) (h2 : x.1 ≠ 26) : i + 1 < L.length ∧ hs[i + 1]? = some (c - tkx x + gvx x) := by
  obtain ⟨_, _, h, e, r, hs', ht⟩ := H.step hb hx hc h0
  obtain ⟨_, _, q3⟩ := fault_ok (hS i x hx)
  have hi := (List.getElem?_eq_some_iff.1 hx).1
  have hl : i + 1 < L.length := by have := q3 h1 h2; omega
  exact ⟨hl, by rw [← ht]; exact H.get hb hl (.next r hx hs' h1 h2)⟩
theorem Hts.first (H : Hts L hs) (hb : ∀ i, ¬ Bad L i) (hl : 1 ≤ L.length) : hs[0]? = some 0 := H.get hb (by omega) (h := 0) .zero
end
open Classical in
/-- Where nothing is bad there are heights. -/
theorem hts_ex (L : List (Int × Int)) : ∃ hs, Hts L hs := by
  refine ⟨(List.range L.length).map fun i => if h : ∃ h, Reach L i h then (h.choose : Int) else -1, by simp, fun i hi => ?_⟩
  have e : ((List.range L.length).map fun i => if h : ∃ h, Reach L i h then (h.choose : Int) else -1)[i]? = some (if h : ∃ h, Reach L i h then (h.choose : Int) else -1) := by
    rw [List.getElem?_map, List.getElem?_range hi]
    rfl
  rw [e]
  by_cases h : ∃ h, Reach L i h
  · exact .inl ⟨h.choose, h.choose_spec, by rw [dif_pos h]⟩
  · exact .inr ⟨fun k r => h ⟨k, r⟩, by rw [dif_neg h]⟩

/-! ### Jumps -/
/-- A program of jumps alone, with or without an end. -/
def jumpsL (l : List Nat) (exit : Bool) : List (Int × Int) := l.map (fun j : Nat => ((22 : Int), (j : Int))) ++ if exit = true then [(1, 0), (26, 0)] else []
/-- Where the jumps lead. -/
inductive Orb (l : List Nat) : Nat → Prop where
  | zero : Orb l 0
  | next {i j : Nat} : Orb l i → l[i]? = some j → Orb l j
section
variable {l : List Nat} {exit : Bool}
theorem jumpsL_len : (jumpsL l exit).length = l.length + (if exit = true then 2 else 0) := by
  unfold jumpsL
  cases exit <;> simp
theorem jumpsL_get {i j : Nat} (h : l[i]? = some j) : (jumpsL l exit)[i]? = some (22, (j : Int)) := by
  unfold jumpsL
  rw [List.getElem?_append_left (by simp; exact (List.getElem?_eq_some_iff.1 h).1), List.getElem?_map, h]
  rfl
theorem jumpsL_inv {i : Nat} {x : Int × Int} (h : (jumpsL l exit)[i]? = some x) : (∃ j, l[i]? = some j ∧ x = (22, (j : Int))) ∨ (exit = true ∧ i = l.length ∧ x = (1, 0)) ∨ (exit = true ∧ i = l.length + 1 ∧ x = (26, 0)) := by
  unfold jumpsL at h
  by_cases hi : i < l.length
  · rw [List.getElem?_append_left (by simp; exact hi), List.getElem?_map, List.getElem?_eq_getElem hi] at h
    injection h with h
    exact .inl ⟨l[i], List.getElem?_eq_getElem hi, h.symm⟩
  · rw [List.getElem?_append_right (by simp; omega), List.length_map] at h
    cases exit with
    | false => simp at h
    | true =>
      simp only [if_true] at h
      rcases (show i - l.length = 0 ∨ i - l.length = 1 ∨ 2 ≤ i - l.length by omega) with e | e | e
      · rw [e] at h
        injection h with h
        exact .inr (.inl ⟨rfl, by omega, h.symm⟩)
      · rw [e] at h
        injection h with h
        exact .inr (.inr ⟨rfl, by omega, h.symm⟩)
      · rw [List.getElem?_eq_none (by simp; omega)] at h
        cases h
theorem jump_reach {i h : Nat} (r : Reach (jumpsL l exit) i h) : (Orb l i ∧ h = 0) ∨ (i = l.length + 1 ∧ h = 1 ∧ Orb l l.length) := by
  induction r with
  | zero => exact .inl ⟨.zero, rfl⟩
  | @jump i h x r hx hs hj ih =>
    rcases jumpsL_inv hx with ⟨j, hj', rfl⟩ | ⟨_, _, rfl⟩ | ⟨_, _, rfl⟩
    · rcases ih with ⟨o, rfl⟩ | ⟨e, _⟩
      · exact .inl ⟨by simpa using Orb.next o hj', rfl⟩
      · have := (List.getElem?_eq_some_iff.1 hj').1
        omega
    · rcases hj with hj | hj <;> cases hj
    · rcases hj with hj | hj <;> cases hj
  | @next i h x r hx hs h1 h2 ih =>
    rcases jumpsL_inv hx with ⟨j, hj', rfl⟩ | ⟨_, e, rfl⟩ | ⟨_, _, rfl⟩
    · exact absurd rfl h1
    · rcases ih with ⟨o, rfl⟩ | ⟨e', _⟩
      · exact .inr ⟨by omega, rfl, by rw [← e]; exact o⟩
      · omega
    · exact absurd rfl h2
theorem jump_ok (j : Nat) : stepOk ((22 : Int), (j : Int)) 0 := by
  show tk 22 ≤ (0 : Nat) ∧ ((0 : Nat) : Int) - tk 22 + gv 22 ≤ 16
  decide
theorem jump_to (j : Nat) : toH ((22 : Int), (j : Int)) 0 = 0 := by
  show (((0 : Nat) : Int) - tk 22 + gv 22).toNat = 0
  decide
theorem orb_reach {i : Nat} (o : Orb l i) : Reach (jumpsL l exit) i 0 := by
  induction o with
  | zero => exact .zero
  | @next i j o hj ih =>
    have := Reach.jump ih (jumpsL_get (exit := exit) hj) (jump_ok j) (.inl rfl)
    rw [jump_to] at this
    simpa using this
/-- What the search through the jumps has come to. -/
structure OrbS (l : List Nat) (S : Nat → Prop) (h : Nat) : Prop where
  o : Orb l h
  s : ∀ i, S i → i < l.length
  z : S 0 ∨ h = 0
  c : ∀ i j, S i → l[i]? = some j → S j ∨ j = h
theorem OrbS.start : OrbS l (fun _ => False) 0 := ⟨.zero, fun _ h => h.elim, .inr rfl, fun _ _ h => h.elim⟩
theorem OrbS.next {S : Nat → Prop} {h j : Nat} (x : OrbS l S h) (hj : l[h]? = some j) : OrbS l (fun i => S i ∨ i = h) j :=
  ⟨.next x.o hj, fun i hi => by
    rcases hi with hi | rfl
    · exact x.s i hi
    · exact (List.getElem?_eq_some_iff.1 hj).1, by
    rcases x.z with z | z
    · exact .inl (.inl z)
    · exact .inl (.inr z.symm), fun i k hi hk => by
    rcases hi with hi | rfl
    · rcases x.c i k hi hk with e | e
      · exact .inl (.inl e)
      · exact .inl (.inr e)
    · rw [hj] at hk
      injection hk with hk
      exact .inr hk.symm⟩
/-- The search has come to an end: come beyond the jumps (h), or round. -/
theorem OrbS.done {S : Nat → Prop} {h : Nat} (x : OrbS l S h) (he : l.length ≤ h ∨ S h) {i : Nat} (o : Orb l i) (hi : l.length ≤ i) : i = h := by
  have all : ∀ q, Orb l q → S q ∨ q = h := fun q oq => by
    induction oq with
    | zero => exact x.z.imp id Eq.symm
    | @next a b o hb ih =>
      rcases ih with s | rfl
      · exact x.c a b s hb
      · rcases he with he | he
        · have := (List.getElem?_eq_some_iff.1 hb).1
          omega
        · exact x.c a b he hb
  rcases all i o with s | e
  · have := x.s i s
    omega
  · exact e
end
end Go.Proofs.Ythjbjbbbbdhcmaa
