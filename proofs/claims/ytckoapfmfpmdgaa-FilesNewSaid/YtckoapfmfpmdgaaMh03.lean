/-
  Parts of the proof, joined: FileL, FzA.
-/
import Derived.Test.YtckoapfmfpmdgaaMh02

namespace Go.Proofs.Ytckoapfmfpmdgaa
set_option linter.unusedVariables false

section
variable {s : Fs}
theorem FOm.fdset (h : FOm s) {i : Nat} {k : Int} (hk : -1 ≤ k ∧ k < s.o.length) : FOm { s with fd := s.fd.set i k } := by
  refine ⟨by simp [h.fl], fun j q hq => ?_, h.os, h.ds⟩
  rw [List.getElem?_set] at hq
  split at hq
  · split at hq
    · cases hq; exact hk
    · cases hq
  · exact h.fds j q hq
theorem FOm.oset (h : FOm s) {i f a : Nat} (hx : f < s.d.length ∧ a ≤ 263) : FOm { s with o := s.o.set i (f, a) } := by
  refine ⟨h.fl, fun j q hq => by simpa using h.fds j q hq, fun j x hj => ?_, h.ds⟩
  rw [List.getElem?_set] at hj
  split at hj
  · split at hj
    · cases hj; exact hx
    · cases hj
  · exact h.os j x hj
theorem FOm.oadd (h : FOm s) {x : Nat × Nat} (hx : x.1 < s.d.length ∧ x.2 ≤ 263) : FOm { s with o := s.o ++ [x] } := by
  refine ⟨h.fl, fun j q hq => ?_, fun j y hj => ?_, h.ds⟩
  · have := h.fds j q hq
    refine ⟨this.1, ?_⟩
    show q < ((s.o ++ [x]).length : Int)
    rw [List.length_append, List.length_singleton]; omega
  · by_cases hl : j < s.o.length
    · rw [List.getElem?_append_left hl] at hj
      exact h.os j y hj
    · rw [List.getElem?_append_right (by omega)] at hj
      cases hq : j - s.o.length with
      | zero => rw [hq] at hj; simp only [List.getElem?_cons_zero, Option.some.injEq] at hj; subst hj; exact hx
      | succ n => rw [hq] at hj; simp at hj
theorem FOm.dset (h : FOm s) {f : Nat} {l : List UInt8} (hl : l.length ≤ 8) : FOm { s with d := s.d.set f l } := by
  refine ⟨h.fl, h.fds, fun j x hj => by simpa using h.os j x hj, fun m hm => ?_⟩
  rcases List.mem_or_eq_of_mem_set hm with h1 | h1
  · exact h.ds m h1
  · rw [h1]; exact hl
theorem FOm.tset (h : FOm s) (t : St) : FOm { s with t := t } := ⟨h.fl, h.fds, h.os, h.ds⟩
theorem padD_len (d : List (List UInt8)) (n : Int) : (padD d n).length = d.length + (n + 1 - d.length).toNat := by simp [padD]
theorem FOm.pad (h : FOm s) (n : Int) : FOm { s with d := padD s.d n } := by
  refine ⟨h.fl, h.fds, fun j x hj => ?_, fun m hm => ?_⟩
  · have := h.os j x hj
    refine ⟨?_, this.2⟩
    show x.1 < (padD s.d n).length
    rw [padD_len]; omega
  · rcases List.mem_append.1 hm with h1 | h1
    · exact h.ds m h1
    · rw [(List.mem_replicate.1 h1).2]; decide
/-- Only descriptors, offsets, bytes. -/
theorem FOk.rest (h : FOk s) {s' : Fs} (m : FOm s') (ht : s'.t = s.t) (hd : s'.d.length = s.d.length) : FOk s' :=
  ⟨m, by rw [ht]; exact h.ok, by rw [ht]; exact h.n8, by rw [ht]; exact h.nx, by rw [ht, hd]; exact h.ids, by rw [ht, hd]; exact h.dn⟩
/-- What is in the tree was in it, under its number. -/
structure Sub (t t' : St) : Prop where
  ok : Ok t'.l
  len : t'.l.length ≤ t.l.length
  nx : t'.nx = t.nx
  ids : ∀ i ∈ t'.l, ∃ j ∈ t.l, j.n = i.n
theorem Sub.refl {t : St} (h : Ok t.l) : Sub t t := ⟨h, Nat.le_refl _, rfl, fun i hi => ⟨i, hi, rfl⟩⟩
theorem FOk.sub (h : FOk s) {t' : St} (k : Sub s.t t') : FOk { s with t := t' } :=
  ⟨h.m.tset t', k.ok, Nat.le_trans k.len h.n8, by show 0 ≤ t'.nx; rw [k.nx]; exact h.nx, fun i hi => by obtain ⟨j, hj, e⟩ := k.ids i hi; rw [← e]; exact h.ids j hj, by show _ ≤ t'.nx; rw [k.nx]; exact h.dn⟩
theorem drop_sub {t : St} (h : Ok t.l) (p : List UInt8) (d : Bool) : Sub t (dropT t p d).2 := by
  refine ⟨drop_ok h p d, ?_, ?_, ?_⟩ <;> unfold dropT <;> (repeat' split)
  all_goals first
    | exact Nat.le_refl _
    | rfl
    | exact fun i hi => ⟨i, hi, rfl⟩
    | exact List.length_eraseP_le
    | exact fun i hi => ⟨i, erase_mem hi, rfl⟩
theorem ren_ids {a b : List UInt8} {l : List Itm} : ∀ i ∈ ren a b l, ∃ j ∈ l, j.n = i.n := fun i hi => by
  rcases mem_ren hi with ⟨j, hj, _, e⟩ | h
  · exact ⟨j, hj, by rw [e]⟩
  · exact ⟨i, h, rfl⟩
theorem move_sub {t : St} (h : Ok t.l) (a b : List UInt8) : Sub t (moveT t a b).2 := by
  refine ⟨move_ok h a b, ?_, ?_, ?_⟩ <;> unfold moveT <;> (repeat' split)
  all_goals first
    | exact Nat.le_refl _
    | rfl
    | exact fun i hi => ⟨i, hi, rfl⟩
    | (show (ren _ _ _).length ≤ _; rw [ren_len]; first | exact Nat.le_refl _ | exact List.length_eraseP_le)
    | exact ren_ids
    | exact fun i hi => by obtain ⟨j, hj, e⟩ := ren_ids i hi; exact ⟨j, erase_mem hj, e⟩
theorem make_cases {t : St} (p : List UInt8) (d : Bool) : ((makeT t p d).1.2 ≠ 0 ∧ (makeT t p d).2 = t) ∨ ((makeT t p d).1 = (t.nx, 0) ∧ (makeT t p d).2 = ⟨t.l ++ [⟨p, d, t.nx⟩], t.nx + 1⟩ ∧ t.l.length < 8) := by
  unfold makeT
  split
  · split
    · split
      · exact .inl ⟨by simp, rfl⟩
      · split
        · exact .inl ⟨by simp, rfl⟩
        · split
          · exact .inl ⟨by simp, rfl⟩
          · exact .inr ⟨rfl, rfl, by omega⟩
    · exact .inl ⟨by simpa using ‹¬ abv t.l p = 0›, rfl⟩
  · exact .inl ⟨by simp, rfl⟩
theorem FOk.make (h : FOk s) {p : List UInt8} {d : Bool} (h0 : (makeT s.t p d).1.2 = 0) : FOk { s with t := (makeT s.t p d).2, d := padD s.d (makeT s.t p d).1.1 } := by
  have hk := make_ok h.ok p d
  rcases make_cases (t := s.t) p d with ⟨h1, _⟩ | ⟨e1, e2, h8⟩
  · exact absurd h0 h1
  · have hn := h.nx
    have hd := h.dn
    have hl : ((padD s.d s.t.nx).length : Int) = s.t.nx + 1 := by rw [padD_len]; omega
    refine ⟨((h.m.pad _).tset _), hk, ?_, ?_, ?_, ?_⟩
    · show (makeT s.t p d).2.l.length ≤ 8
      rw [e2]; simp; omega
    · show 0 ≤ (makeT s.t p d).2.nx
      rw [e2]; show 0 ≤ s.t.nx + 1; omega
    · intro i hi
      have hi : i ∈ (makeT s.t p d).2.l := hi
      show 0 ≤ i.n ∧ i.n < ((padD s.d (makeT s.t p d).1.1).length : Int)
      rw [e2] at hi
      rw [e1, hl]
      rcases List.mem_append.1 hi with h1 | h1
      · have := h.ids i h1; omega
      · rw [List.mem_singleton.1 h1]; exact ⟨hn, Int.lt_succ _⟩
    · show ((padD s.d (makeT s.t p d).1.1).length : Int) ≤ (makeT s.t p d).2.nx
      rw [e1, e2, hl]; exact Int.le_refl _
theorem FOk.opn (h : FOk s) {n f : Nat} (hf : f < s.d.length) : FOk { s with fd := s.fd.set n s.o.length, o := s.o ++ [(f, 0)] } :=
  h.rest ((h.m.oadd (x := (f, 0)) ⟨hf, Nat.zero_le _⟩).fdset (i := n) (k := s.o.length) ⟨by omega, by show (s.o.length : Int) < ((s.o ++ [(f, 0)]).length : Int); simp; omega⟩) rfl rfl
theorem find_id {l : List Itm} {p : List UInt8} (h : (findT l p).2.2 = 0) : ∃ i ∈ l, i.n = (findT l p).1 := by
  unfold findT at h ⊢
  split at h
  · rename_i hn
    rw [if_pos hn]
    split at h
    · rename_i h0
      rw [if_pos h0]
      cases hk : look l p with
      | none => rw [hk] at h; simp at h
      | some i => exact ⟨i, look_mem hk, rfl⟩
    · rename_i h0
      exact absurd h h0
  · simp at h
theorem FOk.open_ (h : FOk s) (p : List UInt8) : FOk (openF s p).2 := by
  unfold openF
  split
  · split
    · exact h
    · split
      · exact h
      · split
        · exact h
        · split
          · rename_i h0
            obtain ⟨i, hi, e⟩ := find_id h0
            have := h.ids i hi
            exact h.opn (by omega)
          · split
            · rename_i h1
              rcases make_cases (t := s.t) p false with ⟨_, e⟩ | ⟨e, _⟩
              · rw [e]; exact h
              · rw [e] at h1; exact absurd rfl h1
            · rename_i h1
              have h1 : (makeT s.t p false).1.2 = 0 := by simpa using h1
              have h2 := h.make h1
              refine h2.opn ?_
              show _ < (padD s.d (makeT s.t p false).1.1).length
              rcases make_cases (t := s.t) p false with ⟨h3, _⟩ | ⟨e, _⟩
              · exact absurd h1 h3
              · rw [e, padD_len]
                have := h.nx
                show (s.t.nx).toNat < _
                omega
  · exact h
theorem FOk.name (h : FOk s) (op : Int) (a b : List UInt8) : FOk (nameF s op a b).2 := by
  unfold nameF
  split
  · exact h.sub (drop_sub h.ok _ _)
  · split
    · exact h.sub (move_sub h.ok _ _)
    · split
      · by_cases h0 : (makeT s.t a true).1.2 = 0
        · simp only [h0, if_true]
          exact h.make h0
        · simp only [h0, if_false]
          rcases make_cases (t := s.t) a true with ⟨_, e⟩ | ⟨e, _⟩
          · rw [e]; exact h
          · rw [e] at h0; exact absurd rfl h0
      · split
        · exact h.sub (drop_sub h.ok _ _)
        · split
          · exact h
          · exact h
theorem FOk.close (h : FOk s) (fd : Nat) : FOk (closeF s fd).2 := by
  unfold closeF
  split
  · exact h
  · exact h.rest (h.m.fdset ⟨by omega, by omega⟩) rfl rfl
theorem FOk.twin (h : FOk s) (fd : Nat) : FOk (twinF s fd).2 := by
  unfold twinF
  split
  · exact h
  · rename_i i hi
    split
    · exact h
    · have := ofI_lt h.m hi
      exact h.rest (h.m.fdset ⟨by omega, by omega⟩) rfl rfl
theorem FOk.seek (h : FOk s) (fd a : Nat) : FOk (seekF s fd a).2 := by
  unfold seekF
  split
  · exact h
  · rename_i i hi
    split
    · exact h
    · have := ofI_lt h.m hi
      have h2 := get_dat h.m this.2.1
      exact h.rest (h.m.oset ⟨h2.1, by omega⟩) rfl rfl
theorem FOk.trunc (h : FOk s) (fd n : Nat) : FOk (truncF s fd n).2 := by
  unfold truncF
  split
  · exact h
  · rename_i i hi
    split
    · exact h
    · exact h.rest (h.m.dset (by unfold cutL; simp; omega)) rfl (by simp)
theorem FOk.read (h : FOk s) (fd n : Nat) : FOk (readF s fd n).2 := by
  unfold readF
  split
  · exact h
  · rename_i i hi
    split
    · exact h
    · have := ofI_lt h.m hi
      have h2 := get_dat h.m this.2.1
      exact h.rest (h.m.oset ⟨h2.1, by unfold manyR; omega⟩) rfl rfl
theorem putL_len8 {l : List UInt8} {a : Nat} {b : List UInt8} (hl : l.length ≤ 8) (ha : a < 8) (hb : a + b.length ≤ 8) : (putL l a b).length ≤ 8 := by
  unfold putL
  simp
  omega
theorem FOk.write (h : FOk s) (fd : Nat) (b : List UInt8) : FOk (writeF s fd b).2 := by
  unfold writeF
  split
  · exact h
  · rename_i i hi
    split
    · exact h
    · split
      · exact h
      · have := ofI_lt h.m hi
        have h2 := get_dat h.m this.2.1
        refine h.rest ((h.m.dset (putL_len8 h2.2.2.1 (by omega) (by simp; omega))).oset (i := i) ⟨by simpa using h2.1, by omega⟩) rfl (by simp)
end
/-- A file system in which nothing is open. -/
theorem FOk.start {t : St} {d : List (List UInt8)} (ok : Ok t.l) (n8 : t.l.length ≤ 8) (hd : (d.length : Int) = t.nx) (ids : ∀ i ∈ t.l, 0 ≤ i.n ∧ i.n < t.nx) (ds : ∀ l ∈ d, l.length ≤ 8) : FOk ⟨t, d, [], [-1, -1, -1, -1]⟩ := by
  refine ⟨⟨rfl, fun i k hk => ?_, fun i x hx => by simp at hx, ds⟩, ok, n8, by show 0 ≤ t.nx; omega, fun i hi => ?_, by show (d.length : Int) ≤ t.nx; omega⟩
  · have : k ∈ [(-1 : Int), -1, -1, -1] := List.mem_of_getElem? hk
    simp at this
    subst this
    exact ⟨by omega, by show (-1 : Int) < (([] : List (Nat × Nat)).length : Int); simp⟩
  · have := ids i hi
    show 0 ≤ i.n ∧ i.n < (d.length : Int)
    omega
theorem from_ids : ∀ (es : List (List UInt8 × Bool)) (k : Nat) (l l' : List Itm), (∀ i ∈ l, 0 ≤ i.n ∧ i.n < (k : Int)) → fromT es k l = some l' → ∀ i ∈ l', 0 ≤ i.n ∧ i.n < ((k + es.length : Nat) : Int)
  | [], k, l, l', h, he => by cases he; exact h
  | e :: es, k, l, l', h, he => by
    rw [fromT] at he
    cases hp : putT l e.1 e.2 k with
    | none => rw [hp] at he; cases he
    | some m =>
      rw [hp] at he
      have hm : m = l ++ [⟨e.1, e.2, (k : Int)⟩] := by
        unfold putT at hp
        repeat' split at hp
        all_goals first
          | exact (Option.some.inj hp).symm
          | cases hp
      have := from_ids es (k + 1) m l' (fun i hi => by
        rw [hm] at hi
        rcases List.mem_append.1 hi with h1 | h1
        · have := h i h1; omega
        · rw [List.mem_singleton.1 h1]
          exact ⟨Int.natCast_nonneg k, by show (k : Int) < ((k + 1 : Nat) : Int); omega⟩) he
      intro i hi
      have := this i hi
      rw [List.length_cons]
      omega
theorem new_ids {es : List (List UInt8 × Bool)} {t : St} (h : newT es = some t) : ∀ i ∈ t.l, 0 ≤ i.n ∧ i.n < t.nx := by
  unfold newT at h
  split at h
  · cases h
  · cases hf : fromT es 0 [] with
    | none => rw [hf] at h; cases h
    | some l =>
      rw [hf] at h
      cases h
      have := from_ids es 0 [] l (fun i hi => by cases hi) hf
      intro i hi
      have := this i hi
      rw [Nat.zero_add] at this
      exact this
end Go.Proofs.Ytckoapfmfpmdgaa

namespace Go.Proofs.Ytckoapfmfpmdgaa
set_option linter.unusedVariables false

/-- A file's bytes with noughts behind them, how many there are, whether it is out of the tree. -/
structure Fil where
  b : List UInt8
  n : Nat
  out : Bool
structure Cs where
  t : St
  f : Nat → Option Fil
  o : Nat → Option (Nat × Nat)
  d : Nat → Option Nat
  nx : Nat
def setM {α : Type} (m : Nat → Option α) (k : Nat) (x : Option α) : Nat → Option α := fun j => if j = k then x else m j
theorem setM_same {α : Type} (m : Nat → Option α) (k : Nat) (x : Option α) : setM m k x k = x := if_pos rfl
theorem setM_ne {α : Type} (m : Nat → Option α) {k j : Nat} (x : Option α) (h : j ≠ k) : setM m k x j = m j := if_neg h
theorem setM_some {α : Type} {m : Nat → Option α} {k j : Nat} {x : Option α} {y : α} (h : setM m k x j = some y) : (j = k ∧ x = some y) ∨ (j ≠ k ∧ m j = some y) := by
  unfold setM at h
  split at h
  · rename_i e; exact .inl ⟨e, h⟩
  · rename_i e; exact .inr ⟨e, h⟩
def pad8 (l : List UInt8) : List UInt8 := l ++ List.replicate (8 - l.length) 0
theorem pad8_len {l : List UInt8} (h : l.length ≤ 8) : (pad8 l).length = 8 := by simp [pad8]; omega
def usedF (s : Fs) (n : Nat) : Prop := ∃ fd i, ofI s fd = some i ∧ filI s i = n
def inT (s : Fs) (n : Nat) : Prop := ∃ i ∈ s.t.l, i.d = false ∧ i.n = (n : Int)
structure Rel (c : Cs) (s : Fs) : Prop where
  t : c.t = s.t
  nx : c.nx = s.o.length
  d : ∀ fd, c.d fd = ofI s fd
  o : ∀ fd i, ofI s fd = some i → c.o i = some (filI s i, offI s i)
  f : ∀ n, inT s n ∨ usedF s n → ∃ x, c.f n = some x ∧ x.b = pad8 (s.d[n]?.getD []) ∧ x.n = (s.d[n]?.getD []).length
  out : ∀ n x, c.f n = some x → x.out = true → ∀ i ∈ s.t.l, i.n ≠ (n : Int)
  fk : ∀ n x, c.f n = some x → (n : Int) < s.t.nx ∧ x.b.length = 8 ∧ x.n ≤ 8
  ok : ∀ i x, c.o i = some x → i < s.o.length ∧ x.2 ≤ 263 ∧ (x.1 : Int) < s.t.nx
  idn : (s.t.l.map (·.n)).Nodup
  b1 : s.o.length ≤ 1000001
  b2 : s.t.nx ≤ 1000001
theorem ofI_set {s : Fs} {j : Nat} (hj : j < s.fd.length) (k : Int) (fd : Nat) : ofI { s with fd := s.fd.set j k } fd = if fd = j then (if k < 0 then none else some k.toNat) else ofI s fd := by
  unfold ofI
  simp only [List.getElem?_set]
  by_cases e : j = fd
  · subst e; simp [hj]
  · rw [if_neg e, if_neg (fun h => e h.symm)]
theorem filI_set {s : Fs} {i a : Nat} (hi : i < s.o.length) (j : Nat) : filI { s with o := s.o.set i (filI s i, a) } j = filI s j := by
  unfold filI
  simp only [List.getElem?_set]
  by_cases e : i = j
  · subst e; simp [hi]
  · rw [if_neg e]
theorem offI_set {s : Fs} {i a f : Nat} (hi : i < s.o.length) (j : Nat) : offI { s with o := s.o.set i (f, a) } j = if j = i then a else offI s j := by
  unfold offI
  simp only [List.getElem?_set]
  by_cases e : i = j
  · subst e; simp [hi]
  · rw [if_neg e, if_neg (fun h => e h.symm)]
theorem filI_add (s : Fs) (x : Nat × Nat) (d : List Int) (j : Nat) : filI { s with fd := d, o := s.o ++ [x] } j = if j = s.o.length then x.1 else filI s j := by
  unfold filI
  by_cases e : j = s.o.length
  · subst e; simp
  · rw [if_neg e]
    by_cases hl : j < s.o.length
    · simp only; rw [List.getElem?_append_left hl]
    · simp only; rw [List.getElem?_eq_none (by simp; omega), List.getElem?_eq_none (by omega)]
theorem offI_add (s : Fs) (x : Nat × Nat) (d : List Int) (j : Nat) : offI { s with fd := d, o := s.o ++ [x] } j = if j = s.o.length then x.2 else offI s j := by
  unfold offI
  by_cases e : j = s.o.length
  · subst e; simp
  · rw [if_neg e]
    by_cases hl : j < s.o.length
    · simp only; rw [List.getElem?_append_left hl]
    · simp only; rw [List.getElem?_eq_none (by simp; omega), List.getElem?_eq_none (by omega)]
theorem freeI_none {fd : List Int} : freeI fd < 0 ↔ ∀ (j : Nat) k, fd[j]? = some k → ¬ k < 0 := by
  unfold freeI
  cases hk : fd.findIdx? (fun k => decide (k < 0)) with
  | none =>
    have := List.findIdx?_eq_none_iff.1 hk
    refine ⟨fun _ j k hj h => ?_, fun _ => by decide⟩
    have := this k (List.mem_of_getElem? hj)
    simp [h] at this
  | some i =>
    obtain ⟨h1, h2, h3⟩ := List.findIdx?_eq_some_iff_getElem.1 hk
    refine ⟨fun h => ?_, fun h => absurd (of_decide_eq_true h2) (h i _ (List.getElem?_eq_getElem h1))⟩
    simp only at h
    omega
/-- The least free descriptor, by what is open. -/
theorem zfree_is {s : Fs} (m : FOm s) {k : Nat} (hk : k < 4) (h0 : ofI s k = none) (hb : ∀ j < k, ofI s j ≠ none) : freeI s.fd = (k : Int) := by
  have hkl : k < s.fd.length := by rw [m.fl]; exact hk
  have e0 : s.fd[k] < 0 := by
    unfold ofI at h0
    rw [List.getElem?_eq_getElem hkl] at h0
    simp only at h0
    split at h0
    · assumption
    · cases h0
  unfold freeI
  have : s.fd.findIdx? (fun k => decide (k < 0)) = some k := List.findIdx?_eq_some_iff_getElem.2 ⟨hkl, by simp [e0], fun j hj => by
    have h1 := hb j hj
    have hjl : j < s.fd.length := by omega
    unfold ofI at h1
    rw [List.getElem?_eq_getElem hjl] at h1
    simp only at h1
    simp
    split at h1
    · exact absurd rfl h1
    · omega⟩
  rw [this]
theorem zfree_no {s : Fs} (m : FOm s) (hb : ∀ j < 4, ofI s j ≠ none) : freeI s.fd < 0 := freeI_none.2 fun j k hj h => by
  have hl := (List.getElem?_eq_some_iff.1 hj).1
  rw [m.fl] at hl
  refine hb j hl ?_
  unfold ofI
  rw [hj]
  simp [h]
section
variable {c : Cs} {s : Fs}
theorem Rel.used (R : Rel c s) {fd i : Nat} (h : ofI s fd = some i) : ∃ x, c.o i = some (filI s i, offI s i) ∧ c.f (filI s i) = some x ∧ x.b = pad8 (datI s i) ∧ x.n = (datI s i).length := by
  obtain ⟨x, h1, h2, h3⟩ := R.f _ (.inr ⟨fd, i, h, rfl⟩)
  exact ⟨x, R.o fd i h, h1, h2, h3⟩
theorem Rel.close (R : Rel c s) (m : FOm s) {fd : Nat} (hf : fd < 4) : Rel { c with d := setM c.d fd none } { s with fd := s.fd.set fd (-1) } := by
  have hl : fd < s.fd.length := by rw [m.fl]; exact hf
  have hO := ofI_set hl (-1)
  have sub : ∀ q i, ofI { s with fd := s.fd.set fd (-1) } q = some i → ofI s q = some i := fun q i h => by
    rw [hO] at h
    split at h
    · cases h
    · exact h
  refine ⟨R.t, R.nx, fun q => ?_, fun q i h => R.o q i (sub q i h), fun n h => R.f n (h.imp id fun ⟨q, i, h1, h2⟩ => ⟨q, i, sub q i h1, h2⟩), R.out, R.fk, R.ok, R.idn, R.b1, R.b2⟩
  rw [hO]
  show setM c.d fd none q = _
  unfold setM
  split
  · rfl
  · exact R.d q
theorem Rel.twin (R : Rel c s) (m : FOm s) {fd i k : Nat} (h : ofI s fd = some i) (hk : k < 4) : Rel { c with d := setM c.d k (some i) } { s with fd := s.fd.set k i } := by
  have hl : k < s.fd.length := by rw [m.fl]; exact hk
  have hO := ofI_set hl (i : Int)
  have sub : ∀ q j, ofI { s with fd := s.fd.set k i } q = some j → ∃ q', ofI s q' = some j := fun q j h' => by
    rw [hO] at h'
    split at h'
    · refine ⟨fd, ?_⟩
      rw [if_neg (by omega)] at h'
      rw [h, ← h']
      rfl
    · exact ⟨q, h'⟩
  refine ⟨R.t, R.nx, fun q => ?_, fun q j h' => ?_, fun n h' => R.f n (h'.imp id fun ⟨q, j, h1, h2⟩ => ?_), R.out, R.fk, R.ok, R.idn, R.b1, R.b2⟩
  · rw [hO]
    show setM c.d k (some i) q = _
    unfold setM
    split
    · rw [if_neg (by omega)]; rfl
    · exact R.d q
  · obtain ⟨q', h2⟩ := sub q j h'
    exact R.o q' j h2
  · obtain ⟨q', h3⟩ := sub q j h1
    exact ⟨q', j, h3, h2⟩
theorem Rel.dropo (R : Rel c s) {i : Nat} (h : ∀ fd, ofI s fd ≠ some i) : Rel { c with o := setM c.o i none } s := by
  refine ⟨R.t, R.nx, R.d, fun q j h' => ?_, R.f, R.out, R.fk, fun j x hj => ?_, R.idn, R.b1, R.b2⟩
  · show setM c.o i none j = _
    rw [setM_ne _ _ (fun e => h q (by rw [← e]; exact h'))]
    exact R.o q j h'
  · have hj : setM c.o i none j = some x := hj
    rcases setM_some hj with ⟨_, e⟩ | ⟨_, hj⟩
    · cases e
    · exact R.ok j x hj
theorem Rel.forget (R : Rel c s) {n : Nat} {x : Fil} (h1 : ∀ i y, c.o i = some y → y.1 ≠ n) (h2 : c.f n = some x) (h3 : x.out = true) : Rel { c with f := setM c.f n none } s := by
  have sub : ∀ j y, setM c.f n none j = some y → c.f j = some y := fun j y h => by
    unfold setM at h
    split at h
    · cases h
    · exact h
  refine ⟨R.t, R.nx, R.d, R.o, fun j h => ?_, fun j y hj => R.out j y (sub j y hj), fun j y hj => R.fk j y (sub j y hj), R.ok, R.idn, R.b1, R.b2⟩
  have hne : j ≠ n := by
    rintro rfl
    rcases h with ⟨i, hi, _, e⟩ | ⟨q, i, hq, e⟩
    · exact R.out j x h2 h3 i hi e
    · exact h1 i _ (R.o q i hq) e
  obtain ⟨y, h4, h5⟩ := R.f j h
  exact ⟨y, (setM_ne _ _ hne).trans h4, h5⟩
theorem Rel.oput (R : Rel c s) {i a : Nat} (hi : i < s.o.length) (ha : a ≤ 263) (hb : (filI s i : Int) < s.t.nx) : Rel { c with o := setM c.o i (some (filI s i, a)) } { s with o := s.o.set i (filI s i, a) } := by
  have hF := filI_set (a := a) hi
  refine ⟨R.t, by simpa using R.nx, R.d, fun q j h => ?_, fun n h => R.f n (h.imp id fun ⟨q, j, h1, h2⟩ => ⟨q, j, h1, by rw [← h2, hF]⟩), R.out, R.fk, fun j x hj => ?_, R.idn, by simpa using R.b1, R.b2⟩
  · rw [hF, offI_set hi]
    show setM c.o i _ j = _
    unfold setM
    by_cases e : j = i
    · subst e; rw [if_pos rfl, if_pos rfl]
    · rw [if_neg e, if_neg e]; exact R.o q j h
  · have hj : setM c.o i _ j = some x := hj
    show j < (s.o.set i _).length ∧ _
    rw [List.length_set]
    rcases setM_some hj with ⟨rfl, e⟩ | ⟨_, hj⟩
    · cases e; exact ⟨hi, ha, hb⟩
    · exact R.ok j x hj
theorem Rel.dput (R : Rel c s) {n : Nat} {x : Fil} (hn : n < s.d.length) (hx : c.f n = some x) {l : List UInt8} (hl : l.length ≤ 8) : Rel { c with f := setM c.f n (some ⟨pad8 l, l.length, x.out⟩) } { s with d := s.d.set n l } := by
  refine ⟨R.t, R.nx, R.d, R.o, fun j h => ?_, fun j y hj => ?_, fun j y hj => ?_, R.ok, R.idn, R.b1, R.b2⟩
  · show ∃ y, setM c.f n _ j = some y ∧ y.b = pad8 ((s.d.set n l)[j]?.getD []) ∧ y.n = ((s.d.set n l)[j]?.getD []).length
    by_cases e : j = n
    · subst e
      refine ⟨_, setM_same _ _ _, ?_⟩
      rw [List.getElem?_set_self hn]
      exact ⟨rfl, rfl⟩
    · obtain ⟨y, h1, h2⟩ := R.f j h
      refine ⟨y, (setM_ne _ _ e).trans h1, ?_⟩
      rw [List.getElem?_set_ne (fun q => e q.symm)]
      exact h2
  · have hj : setM c.f n _ j = some y := hj
    rcases setM_some hj with ⟨rfl, e⟩ | ⟨_, hj⟩
    · cases e; exact R.out j x hx
    · exact R.out j y hj
  · have hj : setM c.f n _ j = some y := hj
    rcases setM_some hj with ⟨rfl, e⟩ | ⟨_, hj⟩
    · cases e; exact ⟨(R.fk j x hx).1, pad8_len hl, hl⟩
    · exact R.fk j y hj
theorem Rel.opn (R : Rel c s) (m : FOm s) {k fl : Nat} (hk : k < 4) (hf : inT s fl) (hn : (fl : Int) < s.t.nx) (hb : s.o.length ≤ 1000000) : Rel { c with o := setM c.o c.nx (some (fl, 0)), d := setM c.d k (some c.nx), nx := c.nx + 1 } { s with fd := s.fd.set k s.o.length, o := s.o ++ [(fl, 0)] } := by
  have hl : k < s.fd.length := by rw [m.fl]; exact hk
  have hO : ∀ fd, ofI { s with fd := s.fd.set k s.o.length, o := s.o ++ [(fl, 0)] } fd = if fd = k then some s.o.length else ofI s fd := fun fd => by
    have := ofI_set hl (s.o.length : Int) fd
    rw [if_neg (show ¬ ((s.o.length : Nat) : Int) < 0 by omega)] at this
    exact this
  have old : ∀ q j, ofI s q = some j → j < s.o.length := fun q j h => (ofI_lt m h).2.1
  refine ⟨R.t, ?_, fun q => ?_, fun q j h => ?_, fun n h => R.f n ?_, R.out, R.fk, fun j x hj => ?_, R.idn, ?_, R.b2⟩
  · show c.nx + 1 = (s.o ++ [(fl, 0)]).length
    rw [R.nx]; simp
  · rw [hO]
    show setM c.d k _ q = _
    unfold setM
    split
    · rw [R.nx]
    · exact R.d q
  · rw [hO] at h
    rw [filI_add, offI_add]
    show setM c.o c.nx _ j = _
    rw [R.nx]
    split at h
    · cases h; rw [setM_same, if_pos rfl, if_pos rfl]
    · have := old q j h
      rw [setM_ne _ _ (by omega), if_neg (by omega), if_neg (by omega)]
      exact R.o q j h
  · rcases h with h | ⟨q, j, h1, h2⟩
    · exact .inl h
    · rw [hO] at h1
      rw [filI_add] at h2
      split at h1
      · cases h1
        rw [if_pos rfl] at h2
        subst h2
        exact .inl hf
      · have := old q j h1
        rw [if_neg (by omega)] at h2
        exact .inr ⟨q, j, h1, h2⟩
  · have hj : setM c.o c.nx _ j = some x := hj
    show j < (s.o ++ [(fl, 0)]).length ∧ _
    rw [List.length_append, List.length_singleton]
    rcases setM_some hj with ⟨e1, e⟩ | ⟨_, hj⟩
    · cases e
      rw [e1, R.nx]; exact ⟨by omega, Nat.zero_le _, hn⟩
    · have := R.ok j x hj; exact ⟨by omega, this.2⟩
  · show (s.o ++ [(fl, 0)]).length ≤ _
    rw [List.length_append, List.length_singleton]; omega
theorem padD_get (d : List (List UInt8)) (n : Int) (j : Nat) : (padD d n)[j]?.getD [] = d[j]?.getD [] := by
  unfold padD
  by_cases h : j < d.length
  · rw [List.getElem?_append_left h]
  · rw [List.getElem?_append_right (by omega), List.getElem?_eq_none (l := d) (by omega)]
    cases hq : (List.replicate (n + 1 - d.length).toNat ([] : List UInt8))[j - d.length]? with
    | none => rfl
    | some x => rw [(List.mem_replicate.1 (List.mem_of_getElem? hq)).2]; rfl
/-- What the tree's own numbers are behind a call on it. -/
structure Sub2 (t t' : St) : Prop where
  nx : t'.nx = t.nx
  it : ∀ i ∈ t'.l, ∃ j ∈ t.l, j.n = i.n ∧ j.d = i.d
  nd : (t'.l.map (·.n)).Nodup
theorem Rel.tree (R : Rel c s) {t' : St} (k : Sub2 s.t t') : Rel { c with t := t' } { s with t := t' } := by
  refine ⟨rfl, R.nx, R.d, R.o, fun n h => R.f n (h.imp (fun ⟨i, hi, h1, h2⟩ => by obtain ⟨j, hj, e1, e2⟩ := k.it i hi; exact ⟨j, hj, e2.trans h1, e1.trans h2⟩) id), fun n x hx ho i hi e => ?_, fun n x hx => ?_, fun i x hx => ?_, k.nd, R.b1, ?_⟩
  · obtain ⟨j, hj, e1, e2⟩ := k.it i hi
    exact R.out n x hx ho j hj (e1.trans e)
  · show (n : Int) < t'.nx ∧ _
    rw [k.nx]; exact R.fk n x hx
  · have := R.ok i x hx
    show i < s.o.length ∧ x.2 ≤ 263 ∧ (x.1 : Int) < t'.nx
    rw [k.nx]; exact this
  · show t'.nx ≤ _
    rw [k.nx]; exact R.b2
theorem Rel.leave (R : Rel c s) {n : Nat} {x : Fil} (h1 : ∀ i ∈ s.t.l, i.n ≠ (n : Int)) (hx : c.f n = some x) : Rel { c with f := setM c.f n (some { x with out := true }) } s := by
  refine ⟨R.t, R.nx, R.d, R.o, fun j h => ?_, fun j y hj ho => ?_, fun j y hj => ?_, R.ok, R.idn, R.b1, R.b2⟩
  · obtain ⟨y, h2, h3⟩ := R.f j h
    show ∃ y, setM c.f n _ j = some y ∧ _
    by_cases e : j = n
    · subst e
      rw [hx] at h2
      cases h2
      exact ⟨_, setM_same _ _ _, h3⟩
    · exact ⟨y, (setM_ne _ _ e).trans h2, h3⟩
  · have hj : setM c.f n _ j = some y := hj
    rcases setM_some hj with ⟨rfl, e⟩ | ⟨_, hj⟩
    · exact h1
    · exact R.out j y hj ho
  · have hj : setM c.f n _ j = some y := hj
    rcases setM_some hj with ⟨rfl, e⟩ | ⟨_, hj⟩
    · cases e; exact R.fk j x hx
    · exact R.fk j y hj
theorem make_nodup {t : St} (h : (t.l.map (·.n)).Nodup) (hi : ∀ i ∈ t.l, i.n < t.nx) (p : List UInt8) (d : Bool) : ((t.l ++ [(⟨p, d, t.nx⟩ : Itm)]).map (·.n)).Nodup := by
  rw [List.map_append, List.nodup_append]
  refine ⟨h, by simp, fun a ha b hb e => ?_⟩
  obtain ⟨i, hi', rfl⟩ := List.mem_map.1 ha
  simp at hb
  have := hi i hi'
  omega
/-- A directory more. -/
theorem Rel.mkd (R : Rel c s) (k : FOk s) {p : List UInt8} (hb : s.t.nx ≤ 1000000) : Rel { c with t := ⟨s.t.l ++ [⟨p, true, s.t.nx⟩], s.t.nx + 1⟩ } { s with t := ⟨s.t.l ++ [⟨p, true, s.t.nx⟩], s.t.nx + 1⟩, d := padD s.d s.t.nx } := by
  refine ⟨rfl, R.nx, R.d, R.o, fun n h => ?_, fun n x hx ho i hi e => ?_, fun n x hx => ?_, fun i x hx => ?_, make_nodup R.idn (fun i hi => by have := k.ids i hi; have := k.dn; omega) p true, R.b1, ?_⟩
  · obtain ⟨x, h1, h2⟩ := R.f n (h.imp (fun ⟨i, hi, h1, h2⟩ => by
      rcases List.mem_append.1 hi with hi | hi
      · exact ⟨i, hi, h1, h2⟩
      · rw [List.mem_singleton.1 hi] at h1; cases h1) id)
    refine ⟨x, h1, ?_⟩
    show x.b = pad8 ((padD s.d s.t.nx)[n]?.getD []) ∧ x.n = ((padD s.d s.t.nx)[n]?.getD []).length
    rw [padD_get]; exact h2
  · rcases List.mem_append.1 hi with hi | hi
    · exact R.out n x hx ho i hi e
    · rw [List.mem_singleton.1 hi] at e
      have := (R.fk n x hx).1
      simp only at e
      omega
  · have := R.fk n x hx
    exact ⟨by show (n : Int) < s.t.nx + 1; omega, this.2⟩
  · have := R.ok i x hx
    exact ⟨this.1, this.2.1, by show (x.1 : Int) < s.t.nx + 1; omega⟩
  · show s.t.nx + 1 ≤ _; omega
/-- A file more. -/
theorem Rel.mkf (R : Rel c s) (k : FOk s) {p : List UInt8} (hb : s.t.nx ≤ 1000000) : Rel { c with t := ⟨s.t.l ++ [⟨p, false, s.t.nx⟩], s.t.nx + 1⟩, f := setM c.f s.t.nx.toNat (some ⟨pad8 [], 0, false⟩) } { s with t := ⟨s.t.l ++ [⟨p, false, s.t.nx⟩], s.t.nx + 1⟩, d := padD s.d s.t.nx } := by
  have h0 := k.nx
  refine ⟨rfl, R.nx, R.d, R.o, fun n h => ?_, fun n x hx ho i hi e => ?_, fun n x hx => ?_, fun i x hx => ?_, make_nodup R.idn (fun i hi => by have := k.ids i hi; have := k.dn; omega) p false, R.b1, ?_⟩
  · show ∃ x, setM c.f _ _ n = some x ∧ x.b = pad8 ((padD s.d s.t.nx)[n]?.getD []) ∧ x.n = ((padD s.d s.t.nx)[n]?.getD []).length
    rw [padD_get]
    by_cases e : n = s.t.nx.toNat
    · subst e
      have hd := k.dn
      rw [List.getElem?_eq_none (by omega)]
      exact ⟨_, setM_same _ _ _, rfl, rfl⟩
    · obtain ⟨x, h1, h2⟩ := R.f n (h.imp (fun ⟨i, hi, h1, h2⟩ => by
        rcases List.mem_append.1 hi with hi | hi
        · exact ⟨i, hi, h1, h2⟩
        · rw [List.mem_singleton.1 hi] at h2; simp only at h2; omega) id)
      exact ⟨x, (setM_ne _ _ e).trans h1, h2⟩
  · have hx : setM c.f _ _ n = some x := hx
    rcases setM_some hx with ⟨_, e'⟩ | ⟨_, hx⟩
    · cases e'; cases ho
    · rcases List.mem_append.1 hi with hi | hi
      · exact R.out n x hx ho i hi e
      · rw [List.mem_singleton.1 hi] at e
        have := (R.fk n x hx).1
        simp only at e
        omega
  · have hx : setM c.f _ _ n = some x := hx
    rcases setM_some hx with ⟨e1, e⟩ | ⟨_, hx⟩
    · cases e
      exact ⟨by show (n : Int) < s.t.nx + 1; omega, by decide, by decide⟩
    · have := R.fk n x hx
      exact ⟨by show (n : Int) < s.t.nx + 1; omega, this.2⟩
  · have := R.ok i x hx
    exact ⟨this.1, this.2.1, by show (x.1 : Int) < s.t.nx + 1; omega⟩
  · show s.t.nx + 1 ≤ _; omega
end
/-! ### Bytes -/
theorem getD_ext {l m : List UInt8} (hl : l.length = m.length) (h : ∀ j, j < l.length → l[j]? = m[j]?) : l = m := List.ext_getElem? fun j => by
  by_cases hj : j < l.length
  · exact h j hj
  · rw [List.getElem?_eq_none (by omega), List.getElem?_eq_none (by omega)]
theorem pad8_cut {l : List UInt8} {n : Nat} (hl : l.length ≤ 8) (hn : n ≤ 8) : pad8 (cutL l n) = (pad8 l).take n ++ List.replicate (8 - n) 0 := by
  refine getD_ext (by simp [pad8, cutL]; omega) fun j hj => ?_
  unfold pad8 cutL
  simp only [List.getElem?_append, List.getElem?_take, List.getElem?_replicate, List.length_append, List.length_take, List.length_replicate]
  repeat' split
  all_goals (first | rfl | omega)
theorem zcutL_len {l : List UInt8} {n : Nat} : (cutL l n).length = n := by simp [cutL]; omega
theorem zputL_len {l : List UInt8} {a : Nat} {b : List UInt8} : (putL l a b).length = max l.length (a + b.length) := by
  unfold putL
  simp
  omega
theorem pad8_put {l : List UInt8} {a : Nat} {b : List UInt8} (hl : l.length ≤ 8) (h : a + b.length ≤ 8) : pad8 (putL l a b) = (pad8 l).take a ++ b ++ (pad8 l).drop (a + b.length) := by
  refine getD_ext (by unfold pad8; simp [zputL_len]; omega) fun j hj => ?_
  unfold pad8
  rw [zputL_len]
  unfold putL
  simp only [List.getElem?_append, List.getElem?_take, List.getElem?_drop, List.getElem?_replicate, List.length_append, List.length_take, List.length_drop, List.length_replicate]
  repeat' split
  all_goals (first | rfl | omega | (congr 1; omega))
theorem pad8_sub {l : List UInt8} {a m : Nat} (h : a + m ≤ l.length) : ((pad8 l).drop a).take m = (l.drop a).take m := by
  refine getD_ext (by simp [pad8]; omega) fun j hj => ?_
  unfold pad8
  have hj2 : j < m := by simp at hj; omega
  simp only [List.getElem?_take, List.getElem?_drop, List.getElem?_append]
  repeat' split
  all_goals (first | rfl | omega)
end Go.Proofs.Ytckoapfmfpmdgaa
