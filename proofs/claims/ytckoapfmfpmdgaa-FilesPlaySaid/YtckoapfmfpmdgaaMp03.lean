/-
  Parts of the proof, joined: FzA, FzB.
-/
import Derived.Test.YtckoapfmfpmdgaaMp02
import Derived.Test.YtckoapfmfpmdgaaMp01
import Derived.Maps.OwnSet
import Derived.Maps.RangeWalk
import Derived.Deep.RegionLaw

namespace Go.Proofs.Ytckoapfmfpmdgaa
set_option linter.unusedVariables false

/-- A file's bytes with noughts behind them, how many there are, whether it is out of the tree. -/
structure Fil where
  b : List UInt8
  n : Nat
  out : Bool
structure Cs where
  t : St
  f : Nat → Option Fil
  o : Nat → Option (Nat × Nat)
  d : Nat → Option Nat
  nx : Nat
def setM {α : Type} (m : Nat → Option α) (k : Nat) (x : Option α) : Nat → Option α := fun j => if j = k then x else m j
theorem setM_same {α : Type} (m : Nat → Option α) (k : Nat) (x : Option α) : setM m k x k = x := if_pos rfl
theorem setM_ne {α : Type} (m : Nat → Option α) {k j : Nat} (x : Option α) (h : j ≠ k) : setM m k x j = m j := if_neg h
theorem setM_some {α : Type} {m : Nat → Option α} {k j : Nat} {x : Option α} {y : α} (h : setM m k x j = some y) : (j = k ∧ x = some y) ∨ (j ≠ k ∧ m j = some y) := by
  unfold setM at h
  split at h
  · rename_i e; exact .inl ⟨e, h⟩
  · rename_i e; exact .inr ⟨e, h⟩
def pad8 (l : List UInt8) : List UInt8 := l ++ List.replicate (8 - l.length) 0
theorem pad8_len {l : List UInt8} (h : l.length ≤ 8) : (pad8 l).length = 8 := by simp [pad8]; omega
def usedF (s : Fs) (n : Nat) : Prop := ∃ fd i, ofI s fd = some i ∧ filI s i = n
def inT (s : Fs) (n : Nat) : Prop := ∃ i ∈ s.t.l, i.d = false ∧ i.n = (n : Int)
structure Rel (c : Cs) (s : Fs) : Prop where
  t : c.t = s.t
  nx : c.nx = s.o.length
  d : ∀ fd, c.d fd = ofI s fd
  o : ∀ fd i, ofI s fd = some i → c.o i = some (filI s i, offI s i)
  f : ∀ n, inT s n ∨ usedF s n → ∃ x, c.f n = some x ∧ x.b = pad8 (s.d[n]?.getD []) ∧ x.n = (s.d[n]?.getD []).length
  out : ∀ n x, c.f n = some x → x.out = true → ∀ i ∈ s.t.l, i.n ≠ (n : Int)
  fk : ∀ n x, c.f n = some x → (n : Int) < s.t.nx ∧ x.b.length = 8 ∧ x.n ≤ 8
  ok : ∀ i x, c.o i = some x → i < s.o.length ∧ x.2 ≤ 263 ∧ (x.1 : Int) < s.t.nx
  idn : (s.t.l.map (·.n)).Nodup
  b1 : s.o.length ≤ 1000001
  b2 : s.t.nx ≤ 1000001
theorem ofI_set {s : Fs} {j : Nat} (hj : j < s.fd.length) (k : Int) (fd : Nat) : ofI { s with fd := s.fd.set j k } fd = if fd = j then (if k < 0 then none else some k.toNat) else ofI s fd := by
  unfold ofI
  simp only [List.getElem?_set]
  by_cases e : j = fd
  · subst e; simp [hj]
  · rw [if_neg e, if_neg (fun h => e h.symm)]
theorem filI_set {s : Fs} {i a : Nat} (hi : i < s.o.length) (j : Nat) : filI { s with o := s.o.set i (filI s i, a) } j = filI s j := by
  unfold filI
  simp only [List.getElem?_set]
  by_cases e : i = j
  · subst e; simp [hi]
  · rw [if_neg e]
theorem offI_set {s : Fs} {i a f : Nat} (hi : i < s.o.length) (j : Nat) : offI { s with o := s.o.set i (f, a) } j = if j = i then a else offI s j := by
  unfold offI
  simp only [List.getElem?_set]
  by_cases e : i = j
  · subst e; simp [hi]
  · rw [if_neg e, if_neg (fun h => e h.symm)]
theorem filI_add (s : Fs) (x : Nat × Nat) (d : List Int) (j : Nat) : filI { s with fd := d, o := s.o ++ [x] } j = if j = s.o.length then x.1 else filI s j := by
  unfold filI
  by_cases e : j = s.o.length
  · subst e; simp
  · rw [if_neg e]
    by_cases hl : j < s.o.length
    · simp only; rw [List.getElem?_append_left hl]
    · simp only; rw [List.getElem?_eq_none (by simp; omega), List.getElem?_eq_none (by omega)]
theorem offI_add (s : Fs) (x : Nat × Nat) (d : List Int) (j : Nat) : offI { s with fd := d, o := s.o ++ [x] } j = if j = s.o.length then x.2 else offI s j := by
  unfold offI
  by_cases e : j = s.o.length
  · subst e; simp
  · rw [if_neg e]
    by_cases hl : j < s.o.length
    · simp only; rw [List.getElem?_append_left hl]
    · simp only; rw [List.getElem?_eq_none (by simp; omega), List.getElem?_eq_none (by omega)]
theorem freeI_none {fd : List Int} : freeI fd < 0 ↔ ∀ (j : Nat) k, fd[j]? = some k → ¬ k < 0 := by
  unfold freeI
  cases hk : fd.findIdx? (fun k => decide (k < 0)) with
  | none =>
    have := List.findIdx?_eq_none_iff.1 hk
    refine ⟨fun _ j k hj h => ?_, fun _ => by decide⟩
    have := this k (List.mem_of_getElem? hj)
    simp [h] at this
  | some i =>
    obtain ⟨h1, h2, h3⟩ := List.findIdx?_eq_some_iff_getElem.1 hk
    refine ⟨fun h => ?_, fun h => absurd (of_decide_eq_true h2) (h i _ (List.getElem?_eq_getElem h1))⟩
    simp only at h
    omega
/-- The least free descriptor, by what is open. -/
theorem zfree_is {s : Fs} (m : FOm s) {k : Nat} (hk : k < 4) (h0 : ofI s k = none) (hb : ∀ j < k, ofI s j ≠ none) : freeI s.fd = (k : Int) := by
  have hkl : k < s.fd.length := by rw [m.fl]; exact hk
  have e0 : s.fd[k] < 0 := by
    unfold ofI at h0
    rw [List.getElem?_eq_getElem hkl] at h0
    simp only at h0
    split at h0
    · assumption
    · cases h0
  unfold freeI
  have : s.fd.findIdx? (fun k => decide (k < 0)) = some k := List.findIdx?_eq_some_iff_getElem.2 ⟨hkl, by simp [e0], fun j hj => by
    have h1 := hb j hj
    have hjl : j < s.fd.length := by omega
    unfold ofI at h1
    rw [List.getElem?_eq_getElem hjl] at h1
    simp only at h1
    simp
    split at h1
    · exact absurd rfl h1
    · omega⟩
  rw [this]
theorem zfree_no {s : Fs} (m : FOm s) (hb : ∀ j < 4, ofI s j ≠ none) : freeI s.fd < 0 := freeI_none.2 fun j k hj h => by
  have hl := (List.getElem?_eq_some_iff.1 hj).1
  rw [m.fl] at hl
  refine hb j hl ?_
  unfold ofI
  rw [hj]
  simp [h]
section
variable {c : Cs} {s : Fs}
theorem Rel.used (R : Rel c s) {fd i : Nat} (h : ofI s fd = some i) : ∃ x, c.o i = some (filI s i, offI s i) ∧ c.f (filI s i) = some x ∧ x.b = pad8 (datI s i) ∧ x.n = (datI s i).length := by
  obtain ⟨x, h1, h2, h3⟩ := R.f _ (.inr ⟨fd, i, h, rfl⟩)
  exact ⟨x, R.o fd i h, h1, h2, h3⟩
theorem Rel.close (R : Rel c s) (m : FOm s) {fd : Nat} (hf : fd < 4) : Rel { c with d := setM c.d fd none } { s with fd := s.fd.set fd (-1) } := by
  have hl : fd < s.fd.length := by rw [m.fl]; exact hf
  have hO := ofI_set hl (-1)
  have sub : ∀ q i, ofI { s with fd := s.fd.set fd (-1) } q = some i → ofI s q = some i := fun q i h => by
    rw [hO] at h
    split at h
    · cases h
    · exact h
  refine ⟨R.t, R.nx, fun q => ?_, fun q i h => R.o q i (sub q i h), fun n h => R.f n (h.imp id fun ⟨q, i, h1, h2⟩ => ⟨q, i, sub q i h1, h2⟩), R.out, R.fk, R.ok, R.idn, R.b1, R.b2⟩
  rw [hO]
  show setM c.d fd none q = _
  unfold setM
  split
  · rfl
  · exact R.d q
theorem Rel.twin (R : Rel c s) (m : FOm s) {fd i k : Nat} (h : ofI s fd = some i) (hk : k < 4) : Rel { c with d := setM c.d k (some i) } { s with fd := s.fd.set k i } := by
  have hl : k < s.fd.length := by rw [m.fl]; exact hk
  have hO := ofI_set hl (i : Int)
  have sub : ∀ q j, ofI { s with fd := s.fd.set k i } q = some j → ∃ q', ofI s q' = some j := fun q j h' => by
    rw [hO] at h'
    split at h'
    · refine ⟨fd, ?_⟩
      rw [if_neg (by omega)] at h'
      rw [h, ← h']
      rfl
    · exact ⟨q, h'⟩
  refine ⟨R.t, R.nx, fun q => ?_, fun q j h' => ?_, fun n h' => R.f n (h'.imp id fun ⟨q, j, h1, h2⟩ => ?_), R.out, R.fk, R.ok, R.idn, R.b1, R.b2⟩
  · rw [hO]
    show setM c.d k (some i) q = _
    unfold setM
    split
    · rw [if_neg (by omega)]; rfl
    · exact R.d q
  · obtain ⟨q', h2⟩ := sub q j h'
    exact R.o q' j h2
  · obtain ⟨q', h3⟩ := sub q j h1
    exact ⟨q', j, h3, h2⟩
theorem Rel.dropo (R : Rel c s) {i : Nat} (h : ∀ fd, ofI s fd ≠ some i) : Rel { c with o := setM c.o i none } s := by
  refine ⟨R.t, R.nx, R.d, fun q j h' => ?_, R.f, R.out, R.fk, fun j x hj => ?_, R.idn, R.b1, R.b2⟩
  · show setM c.o i none j = _
    rw [setM_ne _ _ (fun e => h q (by rw [← e]; exact h'))]
    exact R.o q j h'
  · have hj : setM c.o i none j = some x := hj
    rcases setM_some hj with ⟨_, e⟩ | ⟨_, hj⟩
    · cases e
    · exact R.ok j x hj
theorem Rel.forget (R : Rel c s) {n : Nat} {x : Fil} (h1 : ∀ i y, c.o i = some y → y.1 ≠ n) (h2 : c.f n = some x) (h3 : x.out = true) : Rel { c with f := setM c.f n none } s := by
  have sub : ∀ j y, setM c.f n none j = some y → c.f j = some y := fun j y h => by
    unfold setM at h
    split at h
    · cases h
    · exact h
  refine ⟨R.t, R.nx, R.d, R.o, fun j h => ?_, fun j y hj => R.out j y (sub j y hj), fun j y hj => R.fk j y (sub j y hj), R.ok, R.idn, R.b1, R.b2⟩
  have hne : j ≠ n := by
    rintro rfl
    rcases h with ⟨i, hi, _, e⟩ | ⟨q, i, hq, e⟩
    · exact R.out j x h2 h3 i hi e
    · exact h1 i _ (R.o q i hq) e
  obtain ⟨y, h4, h5⟩ := R.f j h
  exact ⟨y, (setM_ne _ _ hne).trans h4, h5⟩
theorem Rel.oput (R : Rel c s) {i a : Nat} (hi : i < s.o.length) (ha : a ≤ 263) (hb : (filI s i : Int) < s.t.nx) : Rel { c with o := setM c.o i (some (filI s i, a)) } { s with o := s.o.set i (filI s i, a) } := by
  have hF := filI_set (a := a) hi
  refine ⟨R.t, by simpa using R.nx, R.d, fun q j h => ?_, fun n h => R.f n (h.imp id fun ⟨q, j, h1, h2⟩ => ⟨q, j, h1, by rw [← h2, hF]⟩), R.out, R.fk, fun j x hj => ?_, R.idn, by simpa using R.b1, R.b2⟩
  · rw [hF, offI_set hi]
    show setM c.o i _ j = _
    unfold setM
    by_cases e : j = i
    · subst e; rw [if_pos rfl, if_pos rfl]
    · rw [if_neg e, if_neg e]; exact R.o q j h
  · have hj : setM c.o i _ j = some x := hj
    show j < (s.o.set i _).length ∧ _
    rw [List.length_set]
    rcases setM_some hj with ⟨rfl, e⟩ | ⟨_, hj⟩
    · cases e; exact ⟨hi, ha, hb⟩
    · exact R.ok j x hj
theorem Rel.dput (R : Rel c s) {n : Nat} {x : Fil} (hn : n < s.d.length) (hx : c.f n = some x) {l : List UInt8} (hl : l.length ≤ 8) : Rel { c with f := setM c.f n (some ⟨pad8 l, l.length, x.out⟩) } { s with d := s.d.set n l } := by
  refine ⟨R.t, R.nx, R.d, R.o, fun j h => ?_, fun j y hj => ?_, fun j y hj => ?_, R.ok, R.idn, R.b1, R.b2⟩
  · show ∃ y, setM c.f n _ j = some y ∧ y.b = pad8 ((s.d.set n l)[j]?.getD []) ∧ y.n = ((s.d.set n l)[j]?.getD []).length
    by_cases e : j = n
    · subst e
      refine ⟨_, setM_same _ _ _, ?_⟩
      rw [List.getElem?_set_self hn]
      exact ⟨rfl, rfl⟩
    · obtain ⟨y, h1, h2⟩ := R.f j h
      refine ⟨y, (setM_ne _ _ e).trans h1, ?_⟩
      rw [List.getElem?_set_ne (fun q => e q.symm)]
      exact h2
  · have hj : setM c.f n _ j = some y := hj
    rcases setM_some hj with ⟨rfl, e⟩ | ⟨_, hj⟩
    · cases e; exact R.out j x hx
    · exact R.out j y hj
  · have hj : setM c.f n _ j = some y := hj
    rcases setM_some hj with ⟨rfl, e⟩ | ⟨_, hj⟩
    · cases e; exact ⟨(R.fk j x hx).1, pad8_len hl, hl⟩
    · exact R.fk j y hj
theorem Rel.opn (R : Rel c s) (m : FOm s) {k fl : Nat} (hk : k < 4) (hf : inT s fl) (hn : (fl : Int) < s.t.nx) (hb : s.o.length ≤ 1000000) : Rel { c with o := setM c.o c.nx (some (fl, 0)), d := setM c.d k (some c.nx), nx := c.nx + 1 } { s with fd := s.fd.set k s.o.length, o := s.o ++ [(fl, 0)] } := by
  have hl : k < s.fd.length := by rw [m.fl]; exact hk
  have hO : ∀ fd, ofI { s with fd := s.fd.set k s.o.length, o := s.o ++ [(fl, 0)] } fd = if fd = k then some s.o.length else ofI s fd := fun fd => by
    have := ofI_set hl (s.o.length : Int) fd
    rw [if_neg (show ¬ ((s.o.length : Nat) : Int) < 0 by omega)] at this
    exact this
  have old : ∀ q j, ofI s q = some j → j < s.o.length := fun q j h => (ofI_lt m h).2.1
  refine ⟨R.t, ?_, fun q => ?_, fun q j h => ?_, fun n h => R.f n ?_, R.out, R.fk, fun j x hj => ?_, R.idn, ?_, R.b2⟩
  · show c.nx + 1 = (s.o ++ [(fl, 0)]).length
    rw [R.nx]; simp
  · rw [hO]
    show setM c.d k _ q = _
    unfold setM
    split
    · rw [R.nx]
    · exact R.d q
  · rw [hO] at h
    rw [filI_add, offI_add]
    show setM c.o c.nx _ j = _
    rw [R.nx]
    split at h
    · cases h; rw [setM_same, if_pos rfl, if_pos rfl]
    · have := old q j h
      rw [setM_ne _ _ (by omega), if_neg (by omega), if_neg (by omega)]
      exact R.o q j h
  · rcases h with h | ⟨q, j, h1, h2⟩
    · exact .inl h
    · rw [hO] at h1
      rw [filI_add] at h2
      split at h1
      · cases h1
        rw [if_pos rfl] at h2
        subst h2
        exact .inl hf
      · have := old q j h1
        rw [if_neg (by omega)] at h2
        exact .inr ⟨q, j, h1, h2⟩
  · have hj : setM c.o c.nx _ j = some x := hj
    show j < (s.o ++ [(fl, 0)]).length ∧ _
    rw [List.length_append, List.length_singleton]
    rcases setM_some hj with ⟨e1, e⟩ | ⟨_, hj⟩
    · cases e
      rw [e1, R.nx]; exact ⟨by omega, Nat.zero_le _, hn⟩
    · have := R.ok j x hj; exact ⟨by omega, this.2⟩
  · show (s.o ++ [(fl, 0)]).length ≤ _
    rw [List.length_append, List.length_singleton]; omega
theorem padD_get (d : List (List UInt8)) (n : Int) (j : Nat) : (padD d n)[j]?.getD [] = d[j]?.getD [] := by
  unfold padD
  by_cases h : j < d.length
  · rw [List.getElem?_append_left h]
  · rw [List.getElem?_append_right (by omega), List.getElem?_eq_none (l := d) (by omega)]
    cases hq : (List.replicate (n + 1 - d.length).toNat ([] : List UInt8))[j - d.length]? with
    | none => rfl
    | some x => rw [(List.mem_replicate.1 (List.mem_of_getElem? hq)).2]; rfl
/-- What the tree's own numbers are behind a call on it. -/
structure Sub2 (t t' : St) : Prop where
  nx : t'.nx = t.nx
  it : ∀ i ∈ t'.l, ∃ j ∈ t.l, j.n = i.n ∧ j.d = i.d
  nd : (t'.l.map (·.n)).Nodup
theorem Rel.tree (R : Rel c s) {t' : St} (k : Sub2 s.t t') : Rel { c with t := t' } { s with t := t' } := by
  refine ⟨rfl, R.nx, R.d, R.o, fun n h => R.f n (h.imp (fun ⟨i, hi, h1, h2⟩ => by obtain ⟨j, hj, e1, e2⟩ := k.it i hi; exact ⟨j, hj, e2.trans h1, e1.trans h2⟩) id), fun n x hx ho i hi e => ?_, fun n x hx => ?_, fun i x hx => ?_, k.nd, R.b1, ?_⟩
  · obtain ⟨j, hj, e1, e2⟩ := k.it i hi
    exact R.out n x hx ho j hj (e1.trans e)
  · show (n : Int) < t'.nx ∧ _
    rw [k.nx]; exact R.fk n x hx
  · have := R.ok i x hx
    show i < s.o.length ∧ x.2 ≤ 263 ∧ (x.1 : Int) < t'.nx
    rw [k.nx]; exact this
  · show t'.nx ≤ _
    rw [k.nx]; exact R.b2
theorem Rel.leave (R : Rel c s) {n : Nat} {x : Fil} (h1 : ∀ i ∈ s.t.l, i.n ≠ (n : Int)) (hx : c.f n = some x) : Rel { c with f := setM c.f n (some { x with out := true }) } s := by
  refine ⟨R.t, R.nx, R.d, R.o, fun j h => ?_, fun j y hj ho => ?_, fun j y hj => ?_, R.ok, R.idn, R.b1, R.b2⟩
  · obtain ⟨y, h2, h3⟩ := R.f j h
    show ∃ y, setM c.f n _ j = some y ∧ _
    by_cases e : j = n
    · subst e
      rw [hx] at h2
      cases h2
      exact ⟨_, setM_same _ _ _, h3⟩
    · exact ⟨y, (setM_ne _ _ e).trans h2, h3⟩
  · have hj : setM c.f n _ j = some y := hj
    rcases setM_some hj with ⟨rfl, e⟩ | ⟨_, hj⟩
    · exact h1
    · exact R.out j y hj ho
  · have hj : setM c.f n _ j = some y := hj
    rcases setM_some hj with ⟨rfl, e⟩ | ⟨_, hj⟩
    · cases e; exact R.fk j x hx
    · exact R.fk j y hj
theorem make_nodup {t : St} (h : (t.l.map (·.n)).Nodup) (hi : ∀ i ∈ t.l, i.n < t.nx) (p : List UInt8) (d : Bool) : ((t.l ++ [(⟨p, d, t.nx⟩ : Itm)]).map (·.n)).Nodup := by
  rw [List.map_append, List.nodup_append]
  refine ⟨h, by simp, fun a ha b hb e => ?_⟩
  obtain ⟨i, hi', rfl⟩ := List.mem_map.1 ha
  simp at hb
  have := hi i hi'
  omega
/-- A directory more. -/
theorem Rel.mkd (R : Rel c s) (k : FOk s) {p : List UInt8} (hb : s.t.nx ≤ 1000000) : Rel { c with t := ⟨s.t.l ++ [⟨p, true, s.t.nx⟩], s.t.nx + 1⟩ } { s with t := ⟨s.t.l ++ [⟨p, true, s.t.nx⟩], s.t.nx + 1⟩, d := padD s.d s.t.nx } := by
  refine ⟨rfl, R.nx, R.d, R.o, fun n h => ?_, fun n x hx ho i hi e => ?_, fun n x hx => ?_, fun i x hx => ?_, make_nodup R.idn (fun i hi => by have := k.ids i hi; have := k.dn; omega) p true, R.b1, ?_⟩
  · obtain ⟨x, h1, h2⟩ := R.f n (h.imp (fun ⟨i, hi, h1, h2⟩ => by
      rcases List.mem_append.1 hi with hi | hi
      · exact ⟨i, hi, h1, h2⟩
      · rw [List.mem_singleton.1 hi] at h1; cases h1) id)
    refine ⟨x, h1, ?_⟩
    show x.b = pad8 ((padD s.d s.t.nx)[n]?.getD []) ∧ x.n = ((padD s.d s.t.nx)[n]?.getD []).length
    rw [padD_get]; exact h2
  · rcases List.mem_append.1 hi with hi | hi
    · exact R.out n x hx ho i hi e
    · rw [List.mem_singleton.1 hi] at e
      have := (R.fk n x hx).1
      simp only at e
      omega
  · have := R.fk n x hx
    exact ⟨by show (n : Int) < s.t.nx + 1; omega, this.2⟩
  · have := R.ok i x hx
    exact ⟨this.1, this.2.1, by show (x.1 : Int) < s.t.nx + 1; omega⟩
  · show s.t.nx + 1 ≤ _; omega
/-- A file more. -/
theorem Rel.mkf (R : Rel c s) (k : FOk s) {p : List UInt8} (hb : s.t.nx ≤ 1000000) : Rel { c with t := ⟨s.t.l ++ [⟨p, false, s.t.nx⟩], s.t.nx + 1⟩, f := setM c.f s.t.nx.toNat (some ⟨pad8 [], 0, false⟩) } { s with t := ⟨s.t.l ++ [⟨p, false, s.t.nx⟩], s.t.nx + 1⟩, d := padD s.d s.t.nx } := by
  have h0 := k.nx
  refine ⟨rfl, R.nx, R.d, R.o, fun n h => ?_, fun n x hx ho i hi e => ?_, fun n x hx => ?_, fun i x hx => ?_, make_nodup R.idn (fun i hi => by have := k.ids i hi; have := k.dn; omega) p false, R.b1, ?_⟩
  · show ∃ x, setM c.f _ _ n = some x ∧ x.b = pad8 ((padD s.d s.t.nx)[n]?.getD []) ∧ x.n = ((padD s.d s.t.nx)[n]?.getD []).length
    rw [padD_get]
    by_cases e : n = s.t.nx.toNat
    · subst e
      have hd := k.dn
      rw [List.getElem?_eq_none (by omega)]
      exact ⟨_, setM_same _ _ _, rfl, rfl⟩
    · obtain ⟨x, h1, h2⟩ := R.f n (h.imp (fun ⟨i, hi, h1, h2⟩ => by
        rcases List.mem_append.1 hi with hi | hi
        · exact ⟨i, hi, h1, h2⟩
        · rw [List.mem_singleton.1 hi] at h2; simp only at h2; omega) id)
      exact ⟨x, (setM_ne _ _ e).trans h1, h2⟩
  · have hx : setM c.f _ _ n = some x := hx
    rcases setM_some hx with ⟨_, e'⟩ | ⟨_, hx⟩
    · cases e'; cases ho
    · rcases List.mem_append.1 hi with hi | hi
      · exact R.out n x hx ho i hi e
      · rw [List.mem_singleton.1 hi] at e
        have := (R.fk n x hx).1
        simp only at e
        omega
  · have hx : setM c.f _ _ n = some x := hx
    rcases setM_some hx with ⟨e1, e⟩ | ⟨_, hx⟩
    · cases e
      exact ⟨by show (n : Int) < s.t.nx + 1; omega, by decide, by decide⟩
    · have := R.fk n x hx
      exact ⟨by show (n : Int) < s.t.nx + 1; omega, this.2⟩
  · have := R.ok i x hx
    exact ⟨this.1, this.2.1, by show (x.1 : Int) < s.t.nx + 1; omega⟩
  · show s.t.nx + 1 ≤ _; omega
end
/-! ### Bytes -/
theorem getD_ext {l m : List UInt8} (hl : l.length = m.length) (h : ∀ j, j < l.length → l[j]? = m[j]?) : l = m := List.ext_getElem? fun j => by
  by_cases hj : j < l.length
  · exact h j hj
  · rw [List.getElem?_eq_none (by omega), List.getElem?_eq_none (by omega)]
theorem pad8_cut {l : List UInt8} {n : Nat} (hl : l.length ≤ 8) (hn : n ≤ 8) : pad8 (cutL l n) = (pad8 l).take n ++ List.replicate (8 - n) 0 := by
  refine getD_ext (by simp [pad8, cutL]; omega) fun j hj => ?_
  unfold pad8 cutL
  simp only [List.getElem?_append, List.getElem?_take, List.getElem?_replicate, List.length_append, List.length_take, List.length_replicate]
  repeat' split
  all_goals (first | rfl | omega)
theorem zcutL_len {l : List UInt8} {n : Nat} : (cutL l n).length = n := by simp [cutL]; omega
theorem zputL_len {l : List UInt8} {a : Nat} {b : List UInt8} : (putL l a b).length = max l.length (a + b.length) := by
  unfold putL
  simp
  omega
theorem pad8_put {l : List UInt8} {a : Nat} {b : List UInt8} (hl : l.length ≤ 8) (h : a + b.length ≤ 8) : pad8 (putL l a b) = (pad8 l).take a ++ b ++ (pad8 l).drop (a + b.length) := by
  refine getD_ext (by unfold pad8; simp [zputL_len]; omega) fun j hj => ?_
  unfold pad8
  rw [zputL_len]
  unfold putL
  simp only [List.getElem?_append, List.getElem?_take, List.getElem?_drop, List.getElem?_replicate, List.length_append, List.length_take, List.length_drop, List.length_replicate]
  repeat' split
  all_goals (first | rfl | omega | (congr 1; omega))
theorem pad8_sub {l : List UInt8} {a m : Nat} (h : a + m ≤ l.length) : ((pad8 l).drop a).take m = (l.drop a).take m := by
  refine getD_ext (by simp [pad8]; omega) fun j hj => ?_
  unfold pad8
  have hj2 : j < m := by simp at hj; omega
  simp only [List.getElem?_take, List.getElem?_drop, List.getElem?_append]
  repeat' split
  all_goals (first | rfl | omega)
end Go.Proofs.Ytckoapfmfpmdgaa

namespace Go.Proofs.Ytckoapfmfpmdgaa
open Go.ChangeShapes Go.WideShapes Go.ChangeAt Go.RowKit Go.Joins
set_option linter.unusedVariables false
set_option linter.unusedSimpArgs false

/-- An element reads as itself. -/
def idR : Value → Option (DataW Value × List MemPlace) := fun v => some (.held v, [])
theorem held_inj {a b : Value} (h : (DataW.held a : DataW Value) = .held b) : a = b := by injection h
/-- The map of numbers that a datum is. -/
structure IM (q : IntKind) (D : DataW Value) (m : Nat → Option Value) : Prop where
  only : ∀ kl, Maps.has D kl = true → ∃ k : Nat, kl = .int q (k : Int) ∧ (m k).isSome = true
  at_ : ∀ k v, m k = some v → Maps.has D (.int q (k : Int)) = true ∧ ∀ z, D.atKey (.int q (k : Int)) z = .held v
theorem IM.start (q : IntKind) : IM q (.map []) (fun _ => none) := ⟨fun kl h => (by cases h), fun k v h => (by cases h)⟩
theorem lit_inj {q : IntKind} {a b : Nat} (h : Lit.int q (a : Int) = .int q (b : Int)) : a = b := by injection h with _ h; omega
theorem lit_inj2 {q : IntKind} {a b : Int} (h : Lit.int q a = .int q b) : a = b := by cases h; rfl
theorem idR_inj {v x : Value} {y : DataW Value × List MemPlace} (h : idR v = some y) (k : y.1 = .held x) : v = x := by cases h; exact held_inj k
theorem IM.miss {q : IntKind} {D : DataW Value} {m : Nat → Option Value} (h : IM q D m) {k : Nat} (hk : m k = none) : Maps.has D (.int q (k : Int)) = false := by
  cases e : Maps.has D (.int q (k : Int)) with
  | false => rfl
  | true =>
    obtain ⟨j, h1, h2⟩ := h.only _ e
    rw [← lit_inj h1, hk] at h2
    cases h2
theorem IM.put {q : IntKind} {D : DataW Value} {m : Nat → Option Value} (h : IM q D m) (hD : Maps.IsMap D) {k : Nat} (v : Value) : IM q (D.put (.int q (k : Int)) (.held v)) (setM m k (some v)) := by
  have hk : WideAt.IsKeyLit (.int q (k : Int)) := trivial
  refine ⟨fun kl hl => ?_, fun j x hj => ?_⟩
  · by_cases e : kl = .int q (k : Int)
    · exact ⟨k, e, by rw [setM_same]; rfl⟩
    · rw [Maps.has_put_other e] at hl
      obtain ⟨j, h1, h2⟩ := h.only kl hl
      exact ⟨j, h1, by rw [setM_ne _ _ (fun he => e (by rw [h1, he]))]; exact h2⟩
  · rcases setM_some hj with ⟨rfl, e⟩ | ⟨hne, hj⟩
    · cases e
      exact ⟨Maps.has_put_same hD hk _, fun z => Maps.atKey_put_same hD hk _ z⟩
    · have hne' : Lit.int q (j : Int) ≠ .int q (k : Int) := fun e => hne (lit_inj e)
      obtain ⟨h1, h2⟩ := h.at_ j x hj
      exact ⟨by rw [Maps.has_put_other hne']; exact h1, fun z => by rw [Maps.atKey_put_other hne']; exact h2 z⟩
theorem IM.del {q : IntKind} {D : DataW Value} {m : Nat → Option Value} (h : IM q D m) (k : Nat) : IM q (D.del (.int q (k : Int))) (setM m k none) := by
  refine ⟨fun kl hl => ?_, fun j x hj => ?_⟩
  · by_cases e : kl = .int q (k : Int)
    · rw [e, Maps.has_del_same] at hl; cases hl
    · rw [Maps.has_del_other e] at hl
      obtain ⟨j, h1, h2⟩ := h.only kl hl
      exact ⟨j, h1, by rw [setM_ne _ _ (fun he => e (by rw [h1, he]))]; exact h2⟩
  · rcases setM_some hj with ⟨_, e⟩ | ⟨hne, hj⟩
    · cases e
    · have hne' : Lit.int q (j : Int) ≠ .int q (k : Int) := fun e => hne (lit_inj e)
      obtain ⟨h1, h2⟩ := h.at_ j x hj
      exact ⟨by rw [Maps.has_del_other hne']; exact h1, fun z => by rw [Maps.atKey_del_other hne']; exact h2 z⟩
theorem nat_few : ∀ (M : Nat) (l : List Nat), l.Nodup → (∀ k ∈ l, k < M) → l.length ≤ M
  | 0, l, _, h => by
    cases l with
    | nil => simp
    | cons a l => exact absurd (h a (List.mem_cons_self ..)) (Nat.not_lt_zero a)
  | M + 1, l, hn, h => by
    have h1 := nat_few M (l.erase M) (hn.erase M) fun k hk => by
      have h2 := h k (List.mem_of_mem_erase hk)
      have h3 : k ≠ M := fun e => by subst e; exact (List.Nodup.not_mem_erase hn) hk
      omega
    by_cases hm : M ∈ l
    · rw [List.length_erase_of_mem hm] at h1; omega
    · rw [List.erase_of_not_mem hm] at h1; omega
/-- As many as there are numbers below M. -/
theorem IM.few {q : IntKind} {es : List (Lit × DataW Value)} {m : Nat → Option Value} (h : IM q (.map es) m) (hp : es.Pairwise (fun p q => p.1 ≠ q.1)) (hk : ∀ p ∈ es, WideAt.IsKeyLit p.1) {M : Nat} (hM : ∀ k, (m k).isSome = true → k < M) : es.length ≤ M := by
  have hkey : ∀ p ∈ es, ∃ k : Nat, p.1 = .int q (k : Int) ∧ (m k).isSome = true := fun p hp' => h.only p.1 (by
    rw [Maps.has_eq]
    exact List.any_eq_true.2 ⟨p, hp', WideAt.sameKey_self (hk p hp')⟩)
  let f : Lit × DataW Value → Nat := fun p => match p.1 with | .int _ k => k.toNat | _ => 0
  have hf : ∀ p ∈ es, p.1 = .int q (f p : Int) ∧ (m (f p)).isSome = true := fun p hp' => by
    obtain ⟨k, h1, h2⟩ := hkey p hp'
    have : f p = k := by show (match p.1 with | .int _ k => k.toNat | _ => 0) = k; rw [h1]; rfl
    rw [this]; exact ⟨h1, h2⟩
  have := nat_few M (es.map f) (by
    unfold List.Nodup
    rw [List.pairwise_map]
    refine List.Pairwise.imp_of_mem (fun {a b} ha hb hne e => hne ?_) hp
    rw [(hf a ha).1, (hf b hb).1, e]) (fun k hk' => by
    obtain ⟨p, hp', rfl⟩ := List.mem_map.1 hk'
    exact hM _ (hf p hp').2)
  simpa using this
/-- Block b is a map of numbers. -/
def NM (w : World) (t : TypeId) (q : IntKind) (b : Nat) (m : Nat → Option Value) : Prop := ∃ n D, w.ownsMap Try.prog t idR b n D ∧ IM q D m
theorem nmown_same {w w' : World} {t : TypeId} {b n : Nat} {D : DataW Value} (h : w.ownsMap Try.prog t idR b n D) (e : w'.heap[b]? = w.heap[b]?) : w'.ownsMap Try.prog t idR b n D := by
  obtain ⟨es, clock, hb, r⟩ := h
  exact ⟨es, clock, e.trans hb, r⟩
section
variable {w w' : World} {t : TypeId} {q : IntKind} {b : Nat} {m : Nat → Option Value}
theorem NM.lt (h : NM w t q b m) : b < w.heap.size := by obtain ⟨n, D, h1, _⟩ := h; exact h1.lt
theorem NM.same (h : NM w t q b m) (e : w'.heap[b]? = w.heap[b]?) : NM w' t q b m := by
  obtain ⟨n, D, h1, h2⟩ := h
  exact ⟨n, D, nmown_same h1 e, h2⟩
theorem NM.on (h : NM w t q b m) (G : Gw w w') : NM w' t q b m := h.same (G.block b h.lt)
theorem NM.to (h : NM w t q b m) {m' : Nat → Option Value} (e : ∀ k, m k = m' k) : NM w t q b m' := by
  rw [← funext e]; exact h
theorem NM.made (w : World) (t : TypeId) (q : IntKind) : NM (w.alloc (.map #[] 0)) t q w.heap.size (fun _ => none) := ⟨0, _, World.ownsMap_made w _ _ _, IM.start q⟩
theorem keyOf_num {t : TypeId} {q : IntKind} (ht : Try.prog.underlying t = some (.int q)) {k : Nat} (hw : (Lit.int q (k : Int)).wf = true) : keyOf Try.prog t (.int q (k : Int)) = some (.int q (k : Int)) := by
  simp [keyOf, ht, mapKey, hw]
theorem NM.look_ok {mt e : TypeId} (h : NM w t q b m) (ht : Try.prog.underlying t = some (.int q)) (hm : Try.prog.underlying mt = some (.map t e)) {z : Value} (hz : (zeroValue e).run Try.prog w = .ok z w) {k : Nat} (hw : (Lit.int q (k : Int)).wf = true) :
    (Instr.lookup mt (.map (some b)) (.int q (k : Int)) true).run Try.prog w = .ok (.tuple #[(m k).getD z, .bool (m k).isSome]) w := by
  obtain ⟨n, D, h1, h2⟩ := h
  obtain ⟨v, ps, hr, hv⟩ := h1.look_ok (Maps.int_keyed ht) hm hz (rfl : idR z = some (.held z, [])) (keyOf_num ht hw)
  rw [hr]
  cases hk : m k with
  | none =>
    have e1 := h2.miss hk
    rw [Maps.atKey_of_not_has e1] at hv
    rw [e1, held_inj (Prod.mk.inj (Option.some.inj hv)).1]
    rfl
  | some x =>
    obtain ⟨e1, e2⟩ := h2.at_ k x hk
    rw [e2] at hv
    rw [e1, held_inj (Prod.mk.inj (Option.some.inj hv)).1]
    rfl
theorem NM.look {mt e : TypeId} (h : NM w t q b m) (ht : Try.prog.underlying t = some (.int q)) (hm : Try.prog.underlying mt = some (.map t e)) {z : Value} (hz : (zeroValue e).run Try.prog w = .ok z w) {k : Nat} (hw : (Lit.int q (k : Int)).wf = true) :
    (Instr.lookup mt (.map (some b)) (.int q (k : Int)) false).run Try.prog w = .ok ((m k).getD z) w := by
  obtain ⟨n, D, h1, h2⟩ := h
  obtain ⟨v, ps, hr, hv⟩ := h1.lookup (Maps.int_keyed ht) hm hz (rfl : idR z = some (.held z, [])) (keyOf_num ht hw)
  rw [hr]
  cases hk : m k with
  | none =>
    have e1 := h2.miss hk
    rw [Maps.atKey_of_not_has e1] at hv
    rw [held_inj (Prod.mk.inj (Option.some.inj hv)).1]
    rfl
  | some x =>
    obtain ⟨e1, e2⟩ := h2.at_ k x hk
    rw [e2] at hv
    rw [held_inj (Prod.mk.inj (Option.some.inj hv)).1]
    rfl
theorem NM.tight (h : NM w t q b m) (ht : Try.prog.underlying t = some (.int q)) {M : Nat} (hM : ∀ k, (m k).isSome = true → k < M) : ∃ D, w.ownsMap Try.prog t idR b M D ∧ IM q D m := by
  obtain ⟨n, D, h1, h2⟩ := h
  obtain ⟨es, rfl, hp, hk⟩ := h1.entries (Maps.int_keyed ht)
  have hle := h2.few hp hk hM
  obtain ⟨es', clock, hb, F, hs, e⟩ := h1
  refine ⟨.map es, ⟨es', clock, hb, F, ?_, e⟩, h2⟩
  injection e with e
  rw [e, length_sorted] at hle
  simpa using hle
theorem NM.store {mt e : TypeId} (h : NM w t q b m) (ht : Try.prog.underlying t = some (.int q)) (hm : Try.prog.underlying mt = some (.map t e)) {M : Nat} (hM : ∀ k, (m k).isSome = true → k < M) (hB : M < maxLen) {k : Nat} (hw : (Lit.int q (k : Int)).wf = true) (v : Value) :
    ∃ w', (Instr.mapUpdate mt (.map (some b)) (.int q (k : Int)) v).run Try.prog w = .ok () w' ∧ NM w' t q b (setM m k (some v)) ∧ w.mapTurned w' b := by
  obtain ⟨D, h1, h2⟩ := h.tight ht hM
  obtain ⟨w', hr, h3, h4⟩ := h1.store (Maps.int_keyed ht) hm hB (keyOf_num ht hw) (rfl : idR v = some (.held v, []))
  exact ⟨w', hr, ⟨_, _, h3, h2.put h1.isMap v⟩, h4⟩
theorem NM.drop {mt e : TypeId} (h : NM w t q b m) (ht : Try.prog.underlying t = some (.int q)) (hm : Try.prog.underlying mt = some (.map t e)) {k : Nat} (hw : (Lit.int q (k : Int)).wf = true) (ty : TypeId) :
    ∃ w', (Builtin.delete_ #[mt, t] ty #[.map (some b), .int q (k : Int)]).run Try.prog w = .ok (.tuple #[]) w' ∧ NM w' t q b (setM m k none) ∧ w.mapTurned w' b := by
  obtain ⟨n, D, h1, h2⟩ := h
  obtain ⟨w', hr, h3, h4⟩ := h1.drop (Maps.int_keyed ht) hm (keyOf_num ht hw) ty
  exact ⟨w', hr, ⟨_, _, h3, h2.del k⟩, h4⟩
end
/-! ### Ranges -/
/-- Those that are left of a range are numbers of the map. -/
theorem nranges_has {w : World} {t : TypeId} {q : IntKind} {b r n cnt : Nat} {D : DataW Value} {left : Lit → Bool} (ht : Try.prog.underlying t = some (.int q)) (h : w.ranges Try.prog t idR b r n D left cnt) {kl : Lit} (hk : left kl = true) : Maps.has D kl = true := by
  obtain ⟨es, clock, since, seen, c0, hb, F, hs, rfl, hr, hold, rfl, hl1, hl2, hsc, hsk⟩ := h
  obtain ⟨x, hx, rfl⟩ := hl2 kl hk
  obtain ⟨y, hy⟩ := F.reads x hx
  rw [Maps.has_eq]
  exact List.any_eq_true.2 ⟨_, mem_sorted.2 (List.mem_map.2 ⟨x, hx, rfl⟩), WideAt.sameKey_self (by rw [WideElems.rg_of hy]; exact (Maps.int_keyed ht).key (WideElems.rd_key hy))⟩
theorem nranges_same {w w' : World} {t : TypeId} {b r n cnt : Nat} {D : DataW Value} {left : Lit → Bool} (h : w.ranges Try.prog t idR b r n D left cnt) (e1 : w'.heap[b]? = w.heap[b]?) (e2 : w'.heap[r]? = w.heap[r]?) : w'.ranges Try.prog t idR b r n D left cnt := by
  obtain ⟨es, clock, since, seen, c0, hb, F, hs, hD, hr, rest⟩ := h
  exact ⟨es, clock, since, seen, c0, e1.trans hb, F, hs, hD, e2.trans hr, rest⟩
theorem nranges_on {w w' : World} {t : TypeId} {b r n cnt : Nat} {D : DataW Value} {left : Lit → Bool} (h : w.ranges Try.prog t idR b r n D left cnt) (G : Gw w w') : w'.ranges Try.prog t idR b r n D left cnt := nranges_same h (G.block _ h.owns.lt) (G.block _ h.lt)
theorem wpList_next_num {ops : Array Oper} {rest : List Oper} {o : Oper} {a : Act} {Q : Exit → Act → World → Prop} (w : World) (hg : o.guard = none) (it : Operand) (hop : o.op = Op.next it false) (t : TypeId) (q : IntKind) (ht : Try.prog.underlying t = some (.int q)) (b r n : Nat) (D : DataW Value) (left : Lit → Bool) (cnt : Nat) (m : Nat → Option Value) (hM : IM q D m)
    (hit : a.eval it = .pointer (some ⟨r, 0, none⟩)) (h : w.ranges Try.prog t idR b r n D left cnt)
    (hDone : (∀ kl, left kl = false) → wpList Try.prog ops Q rest (a.put o.dst (.tuple #[.bool false])) w)
    (hMore : ∀ (k : Nat) (v : Value) (w' : World) (cnt' : Nat), m k = some v → left (.int q (k : Int)) = true → w'.ranges Try.prog t idR b r n D (fun z => left z && !z.sameKey (.int q (k : Int))) cnt' → cnt' < cnt →
      w.grownBy w' (some r) → w'.heap.size = w.heap.size → (Instr.entry (.pointer (some ⟨r, 0, none⟩))).run Try.prog w' = .ok (.tuple #[.int q (k : Int), v]) w' → wpList Try.prog ops Q rest (a.put o.dst (.tuple #[.bool true, .int q (k : Int), v])) w') :
    wpList Try.prog ops Q (o :: rest) a w := by
  refine wpList_plain hg fun K' hK' => ?_
  unfold Oper.wp
  rcases h.next (Maps.int_keyed ht) o.type with ⟨h0, hl, hrun⟩ | ⟨key, v, kl, y, w', cnt', hkey, hlk, hv, hat, hrun, hrg, hlt, hgr, hsz, hen⟩
  · simp [execOp, hop, hit, hrun, Result.andThen]
    exact hK' _ _ (hDone hl)
  · obtain ⟨k, rfl, hks⟩ := hM.only kl (nranges_has ht h hlk)
    obtain ⟨x, rfl, e, hw⟩ := Maps.keyOf_int_inv ht hkey
    obtain rfl : (k : Int) = x := lit_inj2 e
    obtain ⟨v', hv'⟩ := Option.isSome_iff_exists.1 hks
    obtain rfl : v = v' := idR_inj hv ((hat (.held v)).symm.trans ((hM.at_ k v' hv').2 _))
    simp [execOp, hop, hit, hrun, Result.andThen]
    exact hK' _ _ (hMore k v w' cnt' hv' hlk hrg hlt hgr hsz hen)
end Go.Proofs.Ytckoapfmfpmdgaa
