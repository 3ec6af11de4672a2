/-
  What a check answers of programs of jumps, of pushes and pops. Plain data.
-/
import Derived.Test.YthjbjbbbbdhcmaaCheckV
namespace Go.Proofs.Ythjbjbbbbdhcmaa
set_option linter.unusedVariables false

theorem fault_of {n m i : Nat} {x : Int × Int} (h1 : okI x = true) (h2 : namesOf x = []) : fault n m i x = if (x.1 = 22 ∨ x.1 = 23) ∧ (n : Int) ≤ x.2 then 6 else if (x.1 ≠ 22 ∧ x.1 ≠ 26) ∧ i + 1 = n then 8 else 0 := by
  unfold fault
  rw [if_neg (by rw [h1]; decide), h2, if_neg (by intro k; cases k)]
theorem jump_okI {j : Nat} (hj : j ≤ 95) : okI ((22 : Int), (j : Int)) = true := by
  unfold okI mayB
  simp only [Bool.and_eq_true, decide_eq_true_eq]
  refine ⟨⟨by decide, by decide⟩, by omega, ?_⟩
  show (j : Int) ≤ ms 22
  have : ms 22 = 95 := by decide
  omega
theorem jump_f {n m i j : Nat} (hj : j ≤ 95) (h : j < n) : fault n m i ((22 : Int), (j : Int)) = 0 := by
  rw [fault_of (jump_okI hj) rfl, if_neg (fun k => by have := k.2; simp only at this; omega), if_neg (fun k => k.1.1 rfl)]
theorem jump_f6 {n m i j : Nat} (hj : j ≤ 95) (h : n ≤ j) : fault n m i ((22 : Int), (j : Int)) = 6 := by
  rw [fault_of (jump_okI hj) rfl, if_pos ⟨.inl rfl, by simp only; omega⟩]
theorem push_f {n m i : Nat} (h : i + 1 ≠ n) : fault n m i ((1 : Int), (0 : Int)) = 0 := by
  rw [fault_of (by decide) rfl, if_neg (fun k => by rcases k.1 with k | k <;> cases k), if_neg (fun k => h k.2)]
theorem pop_f {n m i : Nat} (h : i + 1 ≠ n) : fault n m i ((2 : Int), (0 : Int)) = 0 := by
  rw [fault_of (by decide) rfl, if_neg (fun k => by rcases k.1 with k | k <;> cases k), if_neg (fun k => h k.2)]
theorem exit_f {n m i : Nat} : fault n m i ((26 : Int), (0 : Int)) = 0 := by
  rw [fault_of (by decide) rfl, if_neg (fun k => by rcases k.1 with k | k <;> cases k), if_neg (fun k => k.1.2 rfl)]
theorem named_nil : Named [] := fun s hs => by cases hs
theorem push_st {h : Nat} : stepOk ((1 : Int), (0 : Int)) h ↔ h ≤ 15 := by
  have e1 : tkx ((1 : Int), (0 : Int)) = 0 := by decide
  have e2 : gvx ((1 : Int), (0 : Int)) = 1 := by decide
  unfold stepOk
  rw [e1, e2]
  omega
theorem pop_st {h : Nat} (hh : h ≤ 16) : stepOk ((2 : Int), (0 : Int)) h ↔ 1 ≤ h := by
  have e1 : tkx ((2 : Int), (0 : Int)) = 1 := by decide
  have e2 : gvx ((2 : Int), (0 : Int)) = 0 := by decide
  unfold stepOk
  rw [e1, e2]
  omega
theorem exit_st {h : Nat} (hh : h ≤ 16) : stepOk ((26 : Int), (0 : Int)) h ↔ 1 ≤ h := by
  have e1 : tkx ((26 : Int), (0 : Int)) = 1 := by decide
  have e2 : gvx ((26 : Int), (0 : Int)) = 0 := by decide
  unfold stepOk
  rw [e1, e2]
  omega
theorem push_to (h : Nat) : toH ((1 : Int), (0 : Int)) h = h + 1 := by
  have e1 : tkx ((1 : Int), (0 : Int)) = 0 := by decide
  have e2 : gvx ((1 : Int), (0 : Int)) = 1 := by decide
  unfold toH
  rw [e1, e2]
  omega
theorem pop_to (h : Nat) : toH ((2 : Int), (0 : Int)) h = h - 1 := by
  have e1 : tkx ((2 : Int), (0 : Int)) = 1 := by decide
  have e2 : gvx ((2 : Int), (0 : Int)) = 0 := by decide
  unfold toH
  rw [e1, e2]
  omega
/-! ### Jumps -/
section
variable {l : List Nat} {exit : Bool}
theorem jumps_full (h : l = []) (he : exit = false) : Is (jumpsL l exit) [] 0 3 [] := .full fun s => by
  have := s.l1
  subst h
  subst he
  simp [jumpsL] at this
theorem jumps_sized (hl : l.length ≤ 60) (h : l ≠ [] ∨ exit = true) : Sized (jumpsL l exit) [] := by
  have e := jumpsL_len (l := l) (exit := exit)
  refine ⟨?_, ?_, by simp⟩
  · rcases h with h | h
    · have := List.length_pos_iff.2 h
      omega
    · rw [if_pos h] at e
      omega
  · split at e <;> omega
theorem jumps_bad (hl : l.length ≤ 60) (h95 : ∀ j ∈ l, j ≤ 95) {i j : Nat} (hi : l[i]? = some j) (hj : (jumpsL l exit).length ≤ j) (hb : ∀ q k, q < i → l[q]? = some k → k < (jumpsL l exit).length) : Is (jumpsL l exit) [] i 6 [] := by
  have hs : Sized (jumpsL l exit) [] := jumps_sized hl (.inl (by intro e; subst e; simp at hi))
  have hf := jump_f6 (m := ([] : List ByteArray).length) (i := i) (h95 j (List.mem_of_getElem? hi)) hj
  have := Is.single hs named_nil (jumpsL_get hi) (by rw [hf]; decide) (fun q y hq hy => by
    rcases jumpsL_inv hy with ⟨k, hk, rfl⟩ | ⟨_, e, _⟩ | ⟨_, e, _⟩
    · exact jump_f (h95 k (List.mem_of_getElem? hk)) (hb q k hq hk)
    · have := (List.getElem?_eq_some_iff.1 hi).1; omega
    · have := (List.getElem?_eq_some_iff.1 hi).1; omega)
  rw [hf] at this
  exact this
theorem jumps_single (h95 : ∀ j ∈ l, j ≤ 95) (hb : ∀ k ∈ l, k < (jumpsL l exit).length) : Single (jumpsL l exit) [] := fun i x hx => by
  have e := jumpsL_len (l := l) (exit := exit)
  rcases jumpsL_inv hx with ⟨k, hk, rfl⟩ | ⟨he, e', rfl⟩ | ⟨_, _, rfl⟩
  · exact jump_f (h95 k (List.mem_of_getElem? hk)) (hb k (List.mem_of_getElem? hk))
  · rw [if_pos he] at e
    exact push_f (by omega)
  · exact exit_f
/-- Where the jumps come to an end that lies on the exit with nothing to take. -/
theorem jumps_badis {i : Nat} (hu : ¬ (Orb l l.length ∧ Orb l (l.length + 1))) (h : Bad (jumpsL l exit) i) : exit = true ∧ i = l.length + 1 ∧ Orb l (l.length + 1) := by
  obtain ⟨x, h, hx, r, hb⟩ := h
  rcases jump_reach r with ⟨o, rfl⟩ | ⟨rfl, rfl, o⟩
  · rcases jumpsL_inv hx with ⟨j, hj, rfl⟩ | ⟨_, rfl, rfl⟩ | ⟨he, rfl, rfl⟩
    · rcases hb with hb | ⟨h', hne, r'⟩
      · exact absurd (jump_ok j) hb
      · rcases jump_reach r' with ⟨_, e⟩ | ⟨e, _, _⟩
        · exact absurd e hne
        · have := (List.getElem?_eq_some_iff.1 hj).1
          omega
    · rcases hb with hb | ⟨h', hne, r'⟩
      · exact absurd (push_st.2 (by omega)) hb
      · rcases jump_reach r' with ⟨_, e⟩ | ⟨e, _, _⟩
        · exact absurd e hne
        · omega
    · exact ⟨he, rfl, o⟩
  · rcases jumpsL_inv hx with ⟨j, hj, rfl⟩ | ⟨_, e, rfl⟩ | ⟨he, _, rfl⟩
    · have := (List.getElem?_eq_some_iff.1 hj).1
      omega
    · omega
    · rcases hb with hb | ⟨h', hne, r'⟩
      · exact absurd ((exit_st (by omega)).2 (by omega)) hb
      · rcases jump_reach r' with ⟨o', e⟩ | ⟨_, e, _⟩
        · exact absurd ⟨o, o'⟩ hu
        · exact absurd e hne
theorem jumps_stack (hl : l.length ≤ 60) (h95 : ∀ j ∈ l, j ≤ 95) (hb : ∀ k ∈ l, k < (jumpsL l exit).length) (he : exit = true) (o : Orb l (l.length + 1)) (hu : ¬ Orb l l.length) : Is (jumpsL l exit) [] ((l.length + 1 : Nat) : Int) 7 [] := by
  refine .stack (jumps_sized hl (.inr he)) named_nil (jumps_single h95 hb) ⟨(26, 0), 0, ?_, orb_reach o, .inl (fun k => by have := (exit_st (by omega)).1 k; omega)⟩ (fun j hj hB => ?_)
  · subst he
    unfold jumpsL
    rw [List.getElem?_append_right (by simp), List.length_map, if_pos rfl, show l.length + 1 - l.length = 1 by omega]
    rfl
  · have := (jumps_badis (fun k => hu k.1) hB).2.1
    omega
theorem jumps_well (hl : l.length ≤ 60) (h95 : ∀ j ∈ l, j ≤ 95) (hb : ∀ k ∈ l, k < (jumpsL l exit).length) (hn : l ≠ [] ∨ exit = true) (ho : ¬ (exit = true ∧ Orb l (l.length + 1))) : ∃ hs, Is (jumpsL l exit) [] 0 0 hs := by
  obtain ⟨hs, H⟩ := hts_ex (jumpsL l exit)
  refine ⟨hs, .well (jumps_sized hl hn) named_nil (jumps_single h95 hb) (fun i hB => ?_) H⟩
  cases hx : exit with
  | true =>
    have := jumps_badis (fun k => ho ⟨hx, k.2⟩) hB
    exact ho ⟨this.1, this.2.2⟩
  | false =>
    obtain ⟨x, h, hx', r, hb'⟩ := id hB
    rcases jumpsL_inv hx' with ⟨j, hj, rfl⟩ | ⟨e, _⟩ | ⟨e, _⟩
    · rcases jump_reach r with ⟨o, rfl⟩ | ⟨e, _⟩
      · rcases hb' with hb' | ⟨h', hne, r'⟩
        · exact absurd (jump_ok j) hb'
        · rcases jump_reach r' with ⟨_, e⟩ | ⟨e, _⟩
          · exact absurd e hne
          · have := (List.getElem?_eq_some_iff.1 hj).1
            omega
      · have := (List.getElem?_eq_some_iff.1 hj).1
        omega
    · rw [hx] at e; cases e
    · rw [hx] at e; cases e
end
/-! ### Pushes and pops -/
def pushI (b : Bool) : Int × Int := if b = true then (1, 0) else (2, 0)
def pushL (l : List Bool) : List (Int × Int) := l.map pushI ++ [(1, 0), (26, 0)]
/-- The height behind k of them. -/
def hgt : List Bool → Nat → Int
  | [], _ => 0
  | _ :: _, 0 => 0
  | b :: l, k + 1 => (if b = true then 1 else -1) + hgt l k
theorem hgt_zero (l : List Bool) : hgt l 0 = 0 := by cases l <;> rfl
theorem hgt_succ : ∀ {l : List Bool} {k : Nat} {b : Bool}, l[k]? = some b → hgt l (k + 1) = hgt l k + if b = true then 1 else -1
  | [], _, _, h => by simp at h
  | a :: l, 0, b, h => by
    simp at h
    subst h
    show (if a = true then (1 : Int) else -1) + hgt l 0 = 0 + _
    rw [hgt_zero]
    omega
  | a :: l, k + 1, b, h => by
    have := hgt_succ (l := l) (k := k) (b := b) (by simpa using h)
    show (if a = true then (1 : Int) else -1) + hgt l (k + 1) = ((if a = true then (1 : Int) else -1) + hgt l k) + _
    rw [this]
    omega
def hgt' (l : List Bool) (i : Nat) : Int := if i ≤ l.length then hgt l i else hgt l l.length + 1
section
variable {l : List Bool}
theorem pushL_len : (pushL l).length = l.length + 2 := by simp [pushL]
theorem pushL_inv {i : Nat} {x : Int × Int} (h : (pushL l)[i]? = some x) : (∃ b, l[i]? = some b ∧ x = pushI b) ∨ (i = l.length ∧ x = (1, 0)) ∨ (i = l.length + 1 ∧ x = (26, 0)) := by
  unfold pushL at h
  by_cases hi : i < l.length
  · rw [List.getElem?_append_left (by simp; exact hi), List.getElem?_map, List.getElem?_eq_getElem hi] at h
    injection h with h
    exact .inl ⟨l[i], List.getElem?_eq_getElem hi, h.symm⟩
  · rw [List.getElem?_append_right (by simp; omega), List.length_map] at h
    rcases (show i - l.length = 0 ∨ i - l.length = 1 ∨ 2 ≤ i - l.length by omega) with e | e | e
    · rw [e] at h
      injection h with h
      exact .inr (.inl ⟨by omega, h.symm⟩)
    · rw [e] at h
      injection h with h
      exact .inr (.inr ⟨by omega, h.symm⟩)
    · rw [List.getElem?_eq_none (by simp; omega)] at h
      cases h
theorem pushL_get {i : Nat} (hi : i < l.length + 2) : ∃ x, (pushL l)[i]? = some x := ⟨_, List.getElem?_eq_getElem (by rw [pushL_len]; exact hi)⟩
/-- One step: well just if the height behind it is. -/
theorem push_step {i h : Nat} {x : Int × Int} (hx : (pushL l)[i]? = some x) (hi : i ≤ l.length) (hh : (h : Int) = hgt' l i) (h16 : h ≤ 16) : (stepOk x h ↔ 0 ≤ hgt' l (i + 1) ∧ hgt' l (i + 1) ≤ 16) ∧ (stepOk x h → (toH x h : Int) = hgt' l (i + 1)) ∧ x.1 ≠ 22 ∧ x.1 ≠ 23 ∧ x.1 ≠ 26 := by
  rcases pushL_inv hx with ⟨b, hb, rfl⟩ | ⟨rfl, rfl⟩ | ⟨e, _⟩
  · have hl := (List.getElem?_eq_some_iff.1 hb).1
    have e1 : hgt' l i = hgt l i := if_pos hi
    have e2 : hgt' l (i + 1) = hgt l i + if b = true then 1 else -1 := by rw [← hgt_succ hb]; exact if_pos (by omega)
    rw [e1] at hh
    rw [e2]
    cases b with
    | true =>
      show (stepOk ((1 : Int), (0 : Int)) h ↔ _) ∧ (stepOk ((1 : Int), (0 : Int)) h → (toH ((1 : Int), (0 : Int)) h : Int) = _) ∧ _
      rw [push_st, push_to]
      simp only [if_true]
      exact ⟨by omega, fun _ => by omega, by decide, by decide, by decide⟩
    | false =>
      show (stepOk ((2 : Int), (0 : Int)) h ↔ _) ∧ (stepOk ((2 : Int), (0 : Int)) h → (toH ((2 : Int), (0 : Int)) h : Int) = _) ∧ _
      rw [pop_st h16, pop_to]
      simp only [Bool.false_eq_true, if_false]
      exact ⟨by omega, fun _ => by omega, by decide, by decide, by decide⟩
  · have e1 : hgt' l l.length = hgt l l.length := if_pos (Nat.le_refl _)
    have e2 : hgt' l (l.length + 1) = hgt l l.length + 1 := if_neg (by omega)
    rw [e1] at hh
    rw [e2, push_st, push_to]
    exact ⟨by omega, fun _ => by omega, by decide, by decide, by decide⟩
  · omega
theorem push_reach {i h : Nat} (r : Reach (pushL l) i h) : i ≤ l.length + 1 ∧ (h : Int) = hgt' l i ∧ ∀ j, j ≤ i → 0 ≤ hgt' l j ∧ hgt' l j ≤ 16 := by
  induction r with
  | zero =>
    have e : hgt' l 0 = 0 := by unfold hgt'; rw [if_pos (by omega), hgt_zero]
    exact ⟨by omega, by rw [e]; rfl, fun j hj => by obtain rfl : j = 0 := by omega
                                                    rw [e]; omega⟩
  | @jump i h x r hx hs hj ih =>
    obtain ⟨i1, i2, i3⟩ := ih
    by_cases hi : i ≤ l.length
    · have := (push_step hx hi i2 r.le).2.2
      rcases hj with hj | hj
      · exact absurd hj this.1
      · exact absurd hj this.2.1
    · rcases pushL_inv hx with ⟨b, hb, rfl⟩ | ⟨e, rfl⟩ | ⟨e, rfl⟩
      · have := (List.getElem?_eq_some_iff.1 hb).1; omega
      · omega
      · rcases hj with hj | hj <;> cases hj
  | @next i h x r hx hs h1 h2 ih =>
    obtain ⟨i1, i2, i3⟩ := ih
    by_cases hi : i ≤ l.length
    · obtain ⟨q1, q2, _⟩ := push_step hx hi i2 r.le
      refine ⟨by omega, q2 hs, fun j hj => ?_⟩
      by_cases e : j = i + 1
      · subst e; exact q1.1 hs
      · exact i3 j (by omega)
    · rcases pushL_inv hx with ⟨b, hb, rfl⟩ | ⟨e, rfl⟩ | ⟨e, rfl⟩
      · have := (List.getElem?_eq_some_iff.1 hb).1; omega
      · omega
      · exact absurd rfl h2
theorem reach_push : ∀ {i : Nat}, i ≤ l.length + 1 → (∀ j, j ≤ i → 0 ≤ hgt' l j ∧ hgt' l j ≤ 16) → ∃ h : Nat, (h : Int) = hgt' l i ∧ Reach (pushL l) i h
  | 0, _, _ => ⟨0, by unfold hgt'; rw [if_pos (by omega), hgt_zero]; rfl, .zero⟩
  | i + 1, hi, hb => by
    obtain ⟨h, e, r⟩ := reach_push (i := i) (by omega) (fun j hj => hb j (by omega))
    obtain ⟨x, hx⟩ := pushL_get (l := l) (i := i) (by omega)
    obtain ⟨q1, q2, n1, n2, n3⟩ := push_step hx (by omega) e r.le
    have hs := q1.2 (hb (i + 1) (by omega))
    exact ⟨toH x h, q2 hs, .next r hx hs n1 n3⟩
theorem push_sized (hl : l.length ≤ 80) : Sized (pushL l) [] := ⟨by rw [pushL_len]; omega, by rw [pushL_len]; omega, by simp⟩
theorem push_single : Single (pushL l) [] := fun i x hx => by
  have e := pushL_len (l := l)
  rcases pushL_inv hx with ⟨b, hb, rfl⟩ | ⟨rfl, rfl⟩ | ⟨_, rfl⟩
  · have := (List.getElem?_eq_some_iff.1 hb).1
    cases b with
    | true => exact push_f (by omega)
    | false => exact pop_f (by omega)
  · exact push_f (by omega)
  · exact exit_f
theorem push_badis {i : Nat} (h : Bad (pushL l) i) : i ≤ l.length ∧ (∀ j, j ≤ i → 0 ≤ hgt' l j ∧ hgt' l j ≤ 16) ∧ ¬ (0 ≤ hgt' l (i + 1) ∧ hgt' l (i + 1) ≤ 16) := by
  obtain ⟨x, h, hx, r, hb⟩ := h
  obtain ⟨i1, i2, i3⟩ := push_reach r
  have hs : ¬ stepOk x h := by
    rcases hb with hb | ⟨h', hne, r'⟩
    · exact hb
    · have := (push_reach r').2.1
      exact absurd (by omega) hne
  by_cases hi : i ≤ l.length
  · exact ⟨hi, i3, fun k => hs ((push_step hx hi i2 r.le).1.2 k)⟩
  · obtain rfl : i = l.length + 1 := by omega
    rcases pushL_inv hx with ⟨b, hbb, rfl⟩ | ⟨e, rfl⟩ | ⟨e, rfl⟩
    · have := (List.getElem?_eq_some_iff.1 hbb).1; omega
    · omega
    · exfalso
      have e1 : hgt' l (l.length + 1) = hgt l l.length + 1 := if_neg (by omega)
      have e2 : hgt' l l.length = hgt l l.length := if_pos (Nat.le_refl _)
      have := (i3 l.length (by omega)).1
      exact hs ((exit_st r.le).2 (by omega))
/-- The first height that is none. -/
theorem push_stack (hl : l.length ≤ 80) {i : Nat} (hi : i ≤ l.length) (hb : ∀ j, j ≤ i → 0 ≤ hgt' l j ∧ hgt' l j ≤ 16) (hn : ¬ (0 ≤ hgt' l (i + 1) ∧ hgt' l (i + 1) ≤ 16)) : Is (pushL l) [] i 7 [] := by
  obtain ⟨h, e, r⟩ := reach_push (by omega) hb
  obtain ⟨x, hx⟩ := pushL_get (l := l) (i := i) (by omega)
  exact .stack (push_sized hl) named_nil push_single ⟨x, h, hx, r, .inl (fun k => hn ((push_step hx hi e r.le).1.1 k))⟩ (fun j hj hB => (push_badis hB).2.2 (hb (j + 1) (by omega)))
theorem push_well (hl : l.length ≤ 80) (hb : ∀ j, j ≤ l.length + 1 → 0 ≤ hgt' l j ∧ hgt' l j ≤ 16) : ∃ hs, Is (pushL l) [] 0 0 hs := by
  obtain ⟨hs, H⟩ := hts_ex (pushL l)
  exact ⟨hs, .well (push_sized hl) named_nil push_single (fun i hB => (push_badis hB).2.2 (hb (i + 1) (by have := (push_badis hB).1; omega))) H⟩
end
end Go.Proofs.Ythjbjbbbbdhcmaa
