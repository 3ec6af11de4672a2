/-
  Parts of the proof, joined: TreeO, TreeL, FileM, FileL.
-/
import Derived.Test.YtckoapfmfpmdgaaMp01

namespace Go.Proofs.Ytckoapfmfpmdgaa
set_option linter.unusedVariables false

structure Ok (l : List Itm) : Prop where
  nm : ∀ i ∈ l, nameB i.p = true
  nd : (l.map (·.p)).Nodup
  up : ∀ i ∈ l, (spl i.p).1 ≠ [] → ∃ d ∈ l, d.p = (spl i.p).1 ∧ d.d = true
  flat : ∀ i ∈ l, (spl i.p).1 ≠ [] → i.d = false
theorem Ok.nil : Ok [] := ⟨fun i h => (by cases h), List.nodup_nil, fun i h => (by cases h), fun i h => (by cases h)⟩
theorem look_mem {l : List Itm} {p : List UInt8} {i : Itm} (h : look l p = some i) : i ∈ l := List.mem_of_find?_eq_some h
theorem look_not {l : List Itm} {p : List UInt8} (h : look l p = none) : ∀ i ∈ l, i.p ≠ p := fun i hi e => by
  have := List.find?_eq_none.1 h i hi
  exact this (by simp [is, e])
theorem Ok.same {l : List Itm} (h : Ok l) {i j : Itm} (hi : i ∈ l) (hj : j ∈ l) (e : i.p = j.p) : i = j := by
  have := h.nd
  clear h
  revert hi hj
  induction l with
  | nil => intro hi; cases hi
  | cons x l ih =>
    intro hi hj
    rw [List.map_cons, List.nodup_cons] at this
    rcases List.mem_cons.1 hi with rfl | hi2
    · rcases List.mem_cons.1 hj with rfl | hj2
      · rfl
      · exact absurd (List.mem_map.2 ⟨j, hj2, e.symm⟩) this.1
    · rcases List.mem_cons.1 hj with rfl | hj2
      · exact absurd (show _ ∈ l.map (fun x => x.p) from List.mem_map.2 ⟨i, hi2, e⟩) this.1
      · exact ih this.2 hi2 hj2
theorem abv_up {l : List Itm} {p : List UInt8} (h : abv l p = 0) (hd : (spl p).1 ≠ []) : ∃ d ∈ l, d.p = (spl p).1 ∧ d.d = true := by
  unfold abv at h
  rw [if_neg hd] at h
  cases hk : look l (spl p).1 with
  | none => rw [hk] at h; simp at h
  | some i =>
    rw [hk] at h
    refine ⟨i, look_mem hk, look_path hk, ?_⟩
    cases hi : i.d with
    | true => rfl
    | false => simp [hi] at h
theorem Ok.snoc {l : List Itm} (h : Ok l) {p : List UInt8} {d : Bool} {n : Int} (hn : nameB p = true) (hk : look l p = none) (hu : (spl p).1 ≠ [] → ∃ d ∈ l, d.p = (spl p).1 ∧ d.d = true) (hf : (spl p).1 ≠ [] → d = false) : Ok (l ++ [⟨p, d, n⟩]) := by
  refine ⟨fun i hi => ?_, ?_, fun i hi hd => ?_, fun i hi hd => ?_⟩
  · rcases List.mem_append.1 hi with hi | hi
    · exact h.nm i hi
    · rw [List.mem_singleton.1 hi]; exact hn
  · rw [List.map_append, List.nodup_append]
    refine ⟨h.nd, by simp, fun a ha b hb e => ?_⟩
    obtain ⟨i, hi, rfl⟩ := List.mem_map.1 ha
    simp at hb
    exact look_not hk i hi (e.trans hb)
  · rcases List.mem_append.1 hi with hi | hi
    · obtain ⟨x, hx, h1⟩ := h.up i hi hd
      exact ⟨x, List.mem_append_left _ hx, h1⟩
    · rw [List.mem_singleton.1 hi] at hd ⊢
      obtain ⟨x, hx, h1⟩ := hu hd
      exact ⟨x, List.mem_append_left _ hx, h1⟩
  · rcases List.mem_append.1 hi with hi | hi
    · exact h.flat i hi hd
    · rw [List.mem_singleton.1 hi] at hd ⊢
      exact hf hd
theorem make_ok {s : St} (h : Ok s.l) (p : List UInt8) (dir : Bool) : Ok (makeT s p dir).2.l := by
  unfold makeT
  split
  · split
    · split
      · exact h
      · split
        · exact h
        · split
          · exact h
          · rename_i hn h0 _ hk hf _
            exact h.snoc hn hk (abv_up h0) (fun hd => by
              cases dir with
              | false => rfl
              | true => exact absurd ⟨rfl, hd⟩ hf)
    · exact h
  · exact h
theorem erase_mem {l : List Itm} {p : List UInt8} {j : Itm} (h : j ∈ l.eraseP (is p)) : j ∈ l := List.mem_of_mem_eraseP h
theorem erase_keep {l : List Itm} {p : List UInt8} {j : Itm} (h : j ∈ l) (hp : j.p ≠ p) : j ∈ l.eraseP (is p) := (List.mem_eraseP_of_neg (by simp [is, hp])).2 h
theorem Ok.erase {l : List Itm} (h : Ok l) {p : List UInt8} (hu : ∀ i ∈ l, (spl i.p).1 ≠ [] → (spl i.p).1 = p → False) : Ok (l.eraseP (is p)) := by
  refine ⟨fun i hi => h.nm i (erase_mem hi), (List.Sublist.map _ List.eraseP_sublist).nodup h.nd, fun i hi hd => ?_, fun i hi hd => h.flat i (erase_mem hi) hd⟩
  obtain ⟨x, hx, h1, h2⟩ := h.up i (erase_mem hi) hd
  exact ⟨x, erase_keep hx (fun e => hu i (erase_mem hi) hd (h1.symm.trans e)), h1, h2⟩
theorem mem_ren {a b : List UInt8} {j : Itm} : ∀ {l : List Itm}, j ∈ ren a b l → (∃ i ∈ l, i.p = a ∧ j = ⟨b, i.d, i.n⟩) ∨ j ∈ l
  | [], h => by cases h
  | i :: l, h => by
    rw [ren] at h
    split at h
    · rename_i e
      rcases List.mem_cons.1 h with rfl | h
      · exact .inl ⟨i, List.mem_cons_self, e, rfl⟩
      · exact .inr (List.mem_cons_of_mem _ h)
    · rcases List.mem_cons.1 h with rfl | h
      · exact .inr List.mem_cons_self
      · rcases mem_ren h with ⟨x, hx, h1⟩ | h
        · exact .inl ⟨x, List.mem_cons_of_mem _ hx, h1⟩
        · exact .inr (List.mem_cons_of_mem _ h)
theorem ren_mem {a b : List UInt8} {j : Itm} (hj : j.p ≠ a) : ∀ {l : List Itm}, j ∈ l → j ∈ ren a b l
  | i :: l, h => by
    rw [ren]
    split
    · rename_i e
      rcases List.mem_cons.1 h with rfl | h
      · exact absurd e hj
      · exact List.mem_cons_of_mem _ h
    · rcases List.mem_cons.1 h with rfl | h
      · exact List.mem_cons_self
      · exact List.mem_cons_of_mem _ (ren_mem hj h)
theorem ren_nd {a b : List UInt8} : ∀ {l : List Itm}, (l.map (·.p)).Nodup → (∀ i ∈ l, i.p ≠ b) → ((ren a b l).map (·.p)).Nodup
  | [], _, _ => List.nodup_nil
  | i :: l, h, hb => by
    rw [List.map_cons, List.nodup_cons] at h
    rw [ren]
    split
    · rw [List.map_cons, List.nodup_cons]
      refine ⟨fun e => ?_, h.2⟩
      obtain ⟨x, hx, h1⟩ := List.mem_map.1 e
      exact hb x (List.mem_cons_of_mem _ hx) h1
    · rw [List.map_cons, List.nodup_cons]
      refine ⟨fun e => ?_, ren_nd h.2 (fun x hx => hb x (List.mem_cons_of_mem _ hx))⟩
      obtain ⟨x, hx, h1⟩ := List.mem_map.1 e
      rcases mem_ren hx with ⟨y, _, _, rfl⟩ | hx
      · exact hb i List.mem_cons_self h1.symm
      · exact h.1 (List.mem_map.2 ⟨x, hx, h1⟩)
theorem Ok.rename {l : List Itm} (h : Ok l) {a b : List UInt8} {i : Itm} (hk : look l a = some i) (hi : i.d = false) (hn : nameB b = true) (hb : ∀ i ∈ l, i.p ≠ b) (hu : (spl b).1 ≠ [] → ∃ d ∈ l, d.p = (spl b).1 ∧ d.d = true) : Ok (ren a b l) := by
  have hf : ∀ x ∈ l, x.p = a → x.d = false := fun x hx e => by rw [h.same hx (look_mem hk) (e.trans (look_path hk).symm)]; exact hi
  have dirs : ∀ x ∈ l, x.d = true → x ∈ ren a b l := fun x hx hd => ren_mem (fun e => by rw [hf x hx e] at hd; cases hd) hx
  refine ⟨fun j hj => ?_, ren_nd h.nd hb, fun j hj hd => ?_, fun j hj hd => ?_⟩
  · rcases mem_ren hj with ⟨x, _, _, rfl⟩ | hj
    · exact hn
    · exact h.nm j hj
  · rcases mem_ren hj with ⟨x, _, _, rfl⟩ | hj
    · obtain ⟨y, hy, h1, h2⟩ := hu hd
      exact ⟨y, dirs y hy h2, h1, h2⟩
    · obtain ⟨y, hy, h1, h2⟩ := h.up j hj hd
      exact ⟨y, dirs y hy h2, h1, h2⟩
  · rcases mem_ren hj with ⟨x, hx, he, rfl⟩ | hj
    · exact hf x hx he
    · exact h.flat j hj hd
theorem find0 {l : List Itm} {p : List UInt8} (h : (findT l p).2.2 = 0) : nameB p = true ∧ abv l p = 0 ∧ ∃ i, look l p = some i ∧ findT l p = (i.n, i.d, 0) := by
  unfold findT at h ⊢
  by_cases hb : nameB p = true
  · rw [if_pos hb] at h ⊢
    by_cases h0 : abv l p = 0
    · rw [if_pos h0] at h ⊢
      cases hk : look l p with
      | none => rw [hk] at h; simp at h
      | some i => exact ⟨hb, h0, i, rfl, rfl⟩
    · rw [if_neg h0] at h; exact absurd h h0
  · rw [if_neg hb] at h; simp at h
/-- What is no directory has nothing in it. -/
theorem Ok.none_in {l : List Itm} (h : Ok l) {p : List UInt8} {i : Itm} (hk : look l p = some i) (hi : i.d = false) : ∀ j ∈ l, (spl j.p).1 ≠ [] → (spl j.p).1 = p → False := fun j hj hd e => by
  obtain ⟨x, hx, h1, h2⟩ := h.up j hj hd
  have : x = i := h.same hx (look_mem hk) (by rw [h1, e, look_path hk])
  rw [this, hi] at h2; cases h2
theorem drop_ok {s : St} (h : Ok s.l) (p : List UInt8) (dir : Bool) : Ok (dropT s p dir).2.l := by
  unfold dropT
  split
  · rename_i h0
    obtain ⟨_, _, i, hk, he⟩ := find0 h0
    rw [he]
    split
    · exact h
    · split
      · exact h
      · split
        · exact h
        · rename_i h1 h2 h3
          refine h.erase fun j hj hd e => ?_
          cases hi : i.d with
          | false => exact h.none_in hk hi j hj hd e
          | true =>
            cases hdir : dir with
            | false => exact h1 ⟨hdir, hi⟩
            | true =>
              refine h3 ⟨hdir, ?_⟩
              unfold manyL
              exact List.length_pos_of_mem (List.mem_filter.2 ⟨hj, by simp [e]⟩)
  · exact h
theorem erase_not {l : List Itm} (h : Ok l) {p : List UInt8} : ∀ j ∈ l.eraseP (is p), j.p ≠ p := by
  have := h.nd
  clear h
  induction l with
  | nil => intro j hj; cases hj
  | cons x l ih =>
    rw [List.map_cons, List.nodup_cons] at this
    intro j hj
    by_cases hx : is p x = true
    · rw [List.eraseP_cons_of_pos hx] at hj
      intro e
      exact this.1 (List.mem_map.2 ⟨j, hj, e.trans (eq_of_beq hx).symm⟩)
    · rw [List.eraseP_cons_of_neg hx] at hj
      rcases List.mem_cons.1 hj with rfl | hj
      · exact fun e => hx (by simp [is, e])
      · exact ih this.2 j hj
theorem move_ok {s : St} (h : Ok s.l) (a b : List UInt8) : Ok (moveT s a b).2.l := by
  unfold moveT
  split
  · rename_i h0
    obtain ⟨_, _, i, hk, he⟩ := find0 h0
    rw [he]
    split
    · exact h
    · rename_i hd
      have hi : i.d = false := by simpa using hd
      split
      · rename_i hn
        split
        · rename_i hv
          split
          · exact h
          · rename_i hab
            cases hkb : look s.l b with
            | none => exact h.rename hk hi hn (look_not hkb) (abv_up hv)
            | some j =>
              simp only
              split
              · exact h
              · rename_i hjd
                have hj : j.d = false := by simpa using hjd
                have h' := h.erase (p := b) (h.none_in hkb hj)
                have hk' : look (s.l.eraseP (is b)) a = some i := by
                  have e : ∀ l : List Itm, look (l.eraseP (is b)) a = look l a := by
                    intro l
                    induction l with
                    | nil => rfl
                    | cons x l ih =>
                      by_cases hx : is b x = true
                      · rw [List.eraseP_cons_of_pos hx]
                        unfold look
                        have hna : ¬ is a x = true := fun e => hab ((eq_of_beq e).symm.trans (eq_of_beq hx))
                        rw [List.find?_cons_of_neg hna]
                      · rw [List.eraseP_cons_of_neg hx]
                        unfold look at *
                        by_cases ha : is a x = true
                        · rw [List.find?_cons_of_pos ha, List.find?_cons_of_pos ha]
                        · rw [List.find?_cons_of_neg ha, List.find?_cons_of_neg ha]
                          exact ih
                  rw [e, hk]
                refine h'.rename hk' hi hn (erase_not h) (fun hd => ?_)
                obtain ⟨x, hx, h1, h2⟩ := abv_up hv hd
                refine ⟨x, erase_keep hx (fun e => ?_), h1, h2⟩
                have : x = j := h.same hx (look_mem hkb) (e.trans (look_path hkb).symm)
                rw [this, hj] at h2; cases h2
        · exact h
      · exact h
  · exact h
theorem put_ok {l l' : List Itm} (h : Ok l) {p : List UInt8} {d : Bool} {k : Nat} (hp : putT l p d k = some l') : Ok l' ∧ l'.length = l.length + 1 := by
  unfold putT at hp
  split at hp
  · rename_i hn
    split at hp
    · cases hp
    · rename_i hk
      split at hp
      · rename_i h0
        cases hp
        exact ⟨h.snoc hn hk (fun e => absurd h0 e) (fun e => absurd h0 e), by simp⟩
      · split at hp
        · cases hp
        · rename_i hd
          split at hp
          · cases hp
          · rename_i i hi
            split at hp
            · rename_i hid
              cases hp
              exact ⟨h.snoc hn hk (fun _ => ⟨i, look_mem hi, look_path hi, hid⟩) (fun _ => by simpa using hd), by simp⟩
            · cases hp
  · cases hp
theorem from_ok : ∀ (es : List (List UInt8 × Bool)) (k : Nat) (l l' : List Itm), Ok l → fromT es k l = some l' → Ok l' ∧ l'.length = l.length + es.length
  | [], k, l, l', h, hf => by cases hf; exact ⟨h, rfl⟩
  | e :: es, k, l, l', h, hf => by
    rw [fromT] at hf
    cases hp : putT l e.1 e.2 k with
    | none => rw [hp] at hf; cases hf
    | some l1 =>
      rw [hp] at hf
      obtain ⟨h1, h2⟩ := put_ok h hp
      obtain ⟨h3, h4⟩ := from_ok es (k + 1) l1 l' h1 hf
      exact ⟨h3, by rw [h4, h2, List.length_cons]; omega⟩
theorem new_ok1 {es : List (List UInt8 × Bool)} {s : St} (h : newT es = some s) : Ok s.l ∧ s.l.length = es.length ∧ s.nx = es.length ∧ es.length ≤ 8 := by
  unfold newT at h
  split at h
  · cases h
  · cases hf : fromT es 0 [] with
    | none => rw [hf] at h; cases h
    | some l =>
      rw [hf] at h
      cases h
      obtain ⟨h1, h2⟩ := from_ok es 0 [] l Ok.nil hf
      exact ⟨h1, by simpa using h2, rfl, by omega⟩
end Go.Proofs.Ytckoapfmfpmdgaa

namespace Go.Proofs.Ytckoapfmfpmdgaa
set_option linter.unusedVariables false

theorem look_snoc (l : List Itm) (i : Itm) (p : List UInt8) : look (l ++ [i]) p = match look l p with | some j => some j | none => if i.p = p then some i else none := by
  unfold look
  rw [List.find?_append]
  cases List.find? (is p) l with
  | some j => rfl
  | none => by_cases h : i.p = p <;> simp [is, h]
theorem look_erase_ne {l : List Itm} {a b : List UInt8} (h : a ≠ b) : look (l.eraseP (is b)) a = look l a := by
  induction l with
  | nil => rfl
  | cons x l ih =>
    by_cases hx : is b x = true
    · rw [List.eraseP_cons_of_pos hx]
      unfold look
      have hna : ¬ is a x = true := fun e => h ((eq_of_beq e).symm.trans (eq_of_beq hx))
      rw [List.find?_cons_of_neg hna]
    · rw [List.eraseP_cons_of_neg hx]
      unfold look at *
      by_cases ha : is a x = true
      · rw [List.find?_cons_of_pos ha, List.find?_cons_of_pos ha]
      · rw [List.find?_cons_of_neg ha, List.find?_cons_of_neg ha]
        exact ih
theorem look_none {l : List Itm} {p : List UInt8} (h : ∀ j ∈ l, j.p ≠ p) : look l p = none := by
  unfold look
  rw [List.find?_eq_none]
  intro j hj
  simp [is, h j hj]
theorem look_erase_self {l : List Itm} (h : Ok l) (p : List UInt8) : look (l.eraseP (is p)) p = none := look_none (erase_not h)
theorem erase_len {l : List Itm} {p : List UInt8} {i : Itm} (h : look l p = some i) : (l.eraseP (is p)).length + 1 = l.length := by
  have hm := look_mem h
  have := List.length_eraseP_of_mem (p := is p) hm (by simp [is, look_path h])
  have := List.length_pos_of_mem hm
  omega
theorem ren_len (a b : List UInt8) : ∀ l : List Itm, (ren a b l).length = l.length
  | [] => rfl
  | i :: l => by rw [ren]; split <;> simp [ren_len a b l]
theorem look_ren_to {a b : List UInt8} : ∀ {l : List Itm} {i : Itm}, look l a = some i → (∀ j ∈ l, j.p ≠ b) → look (ren a b l) b = some ⟨b, i.d, i.n⟩
  | [], i, h, _ => by cases h
  | x :: l, i, h, hb => by
    rw [ren]
    unfold look at h ⊢
    split
    · rename_i e
      rw [List.find?_cons_of_pos (by simp [is, e])] at h
      cases h
      rw [List.find?_cons_of_pos (by simp [is])]
    · rename_i e
      rw [List.find?_cons_of_neg (by simp [is, e])] at h
      rw [List.find?_cons_of_neg (by simp [is, hb x List.mem_cons_self])]
      exact look_ren_to h (fun j hj => hb j (List.mem_cons_of_mem _ hj))
theorem look_ren_from {a b : List UInt8} (hab : a ≠ b) : ∀ {l : List Itm}, (l.map (·.p)).Nodup → look (ren a b l) a = none
  | [], _ => rfl
  | x :: l, h => by
    rw [List.map_cons, List.nodup_cons] at h
    rw [ren]
    split
    · rename_i e
      refine look_none fun j hj => ?_
      rcases List.mem_cons.1 hj with rfl | hj
      · exact hab.symm
      · exact fun e2 => h.1 (List.mem_map.2 ⟨j, hj, e2.trans e.symm⟩)
    · rename_i e
      have := look_ren_from hab h.2
      unfold look at this ⊢
      rw [List.find?_cons_of_neg (by simp [is, e])]
      exact this
theorem look_ren_ne {a b c : List UInt8} (ha : c ≠ a) (hb : c ≠ b) : ∀ {l : List Itm}, look (ren a b l) c = look l c
  | [] => rfl
  | x :: l => by
    rw [ren]
    split
    · rename_i e
      unfold look
      rw [List.find?_cons_of_neg (by simp [is, hb.symm]), List.find?_cons_of_neg (by simp [is, e, ha.symm])]
    · have := look_ren_ne ha hb (l := l)
      unfold look at this ⊢
      by_cases h : x.p = c
      · rw [List.find?_cons_of_pos (by simp [is, h]), List.find?_cons_of_pos (by simp [is, h])]
      · rw [List.find?_cons_of_neg (by simp [is, h]), List.find?_cons_of_neg (by simp [is, h])]
        exact this
/-! ### A file at a path of which nothing stands ahead -/
section
variable {s : St} {p : List UInt8} (hn : nameB p = true) (h0 : abv s.l p = 0)
include hn h0
theorem find_some {i : Itm} (h : look s.l p = some i) : findT s.l p = (i.n, i.d, 0) := by unfold findT; rw [if_pos hn, if_pos h0, h]
theorem find_none (h : look s.l p = none) : findT s.l p = (-1, false, 65282) := by unfold findT; rw [if_pos hn, if_pos h0, h]
end
end Go.Proofs.Ytckoapfmfpmdgaa

namespace Go.Proofs.Ytckoapfmfpmdgaa
set_option linter.unusedVariables false

structure Fs where
  t : St
  d : List (List UInt8)
  o : List (Nat × Nat)
  fd : List Int
/-- The least that is free; -1: none. -/
def freeI (fd : List Int) : Int := match fd.findIdx? (fun k => decide (k < 0)) with | none => -1 | some i => i
/-- Which open file a descriptor has. -/
def ofI (s : Fs) (fd : Nat) : Option Nat := match s.fd[fd]? with | none => none | some k => if k < 0 then none else some k.toNat
def filI (s : Fs) (i : Nat) : Nat := (s.o[i]?.getD (0, 0)).1
def offI (s : Fs) (i : Nat) : Nat := (s.o[i]?.getD (0, 0)).2
def datI (s : Fs) (i : Nat) : List UInt8 := s.d[filI s i]?.getD []
def closeF (s : Fs) (fd : Nat) : Int × Fs := match ofI s fd with | none => (65289, s) | some _ => (0, { s with fd := s.fd.set fd (-1) })
def twinF (s : Fs) (fd : Nat) : Int × Fs := match ofI s fd with
  | none => (65289, s)
  | some i => if freeI s.fd < 0 then (65304, s) else (freeI s.fd, { s with fd := s.fd.set (freeI s.fd).toNat i })
def sizeF (s : Fs) (fd : Nat) : Int := match ofI s fd with | none => 65289 | some i => (datI s i).length
def seekF (s : Fs) (fd a : Nat) : Int × Fs := match ofI s fd with
  | none => (65289, s)
  | some i => if 255 < a then (65302, s) else (a, { s with o := s.o.set i (filI s i, a) })
def cutL (l : List UInt8) (n : Nat) : List UInt8 := l.take n ++ List.replicate (n - l.length) 0
def truncF (s : Fs) (fd n : Nat) : Int × Fs := match ofI s fd with
  | none => (65289, s)
  | some i => if 8 < n then (65302, s) else (0, { s with d := s.d.set (filI s i) (cutL (datI s i) n) })
def manyR (s : Fs) (i n : Nat) : Nat := min n ((datI s i).length - offI s i)
def readF (s : Fs) (fd n : Nat) : (List UInt8 × Int) × Fs := match ofI s fd with
  | none => (([], 65289), s)
  | some i => if manyR s i n = 0 then (([], 0), s) else ((((datI s i).drop (offI s i)).take (manyR s i n), manyR s i n), { s with o := s.o.set i (filI s i, offI s i + manyR s i n) })
/-- b at a in l, noughts ahead of it where there is nothing. -/
def putL (l : List UInt8) (a : Nat) (b : List UInt8) : List UInt8 := (l ++ List.replicate (a + b.length - l.length) 0).take a ++ b ++ (l.drop (a + b.length))
def writeF (s : Fs) (fd : Nat) (b : List UInt8) : Int × Fs := match ofI s fd with
  | none => (65289, s)
  | some i => if b = [] then (0, s) else if 8 ≤ offI s i then (65308, s) else
    (min b.length (8 - offI s i), { s with d := s.d.set (filI s i) (putL (datI s i) (offI s i) (b.take (8 - offI s i))), o := s.o.set i (filI s i, offI s i + min b.length (8 - offI s i)) })
def padD (d : List (List UInt8)) (n : Int) : List (List UInt8) := d ++ List.replicate (n + 1 - d.length).toNat []
def openF (s : Fs) (p : List UInt8) : Int × Fs :=
  if nameB p = true then
    (if (findT s.t.l p).2.2 = 0 ∧ (findT s.t.l p).2.1 = true then (65301, s)
     else if abv s.t.l p ≠ 0 then (abv s.t.l p, s)
     else if freeI s.fd < 0 then (65304, s)
     else if (findT s.t.l p).2.2 = 0 then (freeI s.fd, { s with fd := s.fd.set (freeI s.fd).toNat s.o.length, o := s.o ++ [((findT s.t.l p).1.toNat, 0)] })
     else if (makeT s.t p false).1.2 ≠ 0 then ((makeT s.t p false).1.2, { s with t := (makeT s.t p false).2 })
     else (freeI s.fd, { t := (makeT s.t p false).2, d := padD s.d (makeT s.t p false).1.1, fd := s.fd.set (freeI s.fd).toNat s.o.length, o := s.o ++ [((makeT s.t p false).1.1.toNat, 0)] }))
  else (65282, s)
/-- Unlink, Rename, Mkdir, Rmdir, List: by the instruction's number. -/
def nameF (s : Fs) (op : Int) (a b : List UInt8) : Int × Fs :=
  if op = 33 then ((dropT s.t a false).1, { s with t := (dropT s.t a false).2 })
  else if op = 34 then ((moveT s.t a b).1.2, { s with t := (moveT s.t a b).2 })
  else if op = 35 then ((makeT s.t a true).1.2, { s with t := (makeT s.t a true).2, d := if (makeT s.t a true).1.2 = 0 then padD s.d (makeT s.t a true).1.1 else s.d })
  else if op = 36 then ((dropT s.t a true).1, { s with t := (dropT s.t a true).2 })
  else if op = 37 then (manyT s.t.l a, s)
  else (65302, s)
def bytesF (s : Fs) (p : List UInt8) : List UInt8 × Int :=
  if (findT s.t.l p).2.2 ≠ 0 then ([], (findT s.t.l p).2.2) else if (findT s.t.l p).2.1 = true then ([], 65301) else (s.d[(findT s.t.l p).1.toNat]?.getD [], 0)
/-- What is always so of descriptors, open files, bytes. -/
structure FOm (s : Fs) : Prop where
  fl : s.fd.length = 4
  fds : ∀ (i : Nat) k, s.fd[i]? = some k → -1 ≤ k ∧ k < s.o.length
  os : ∀ (i : Nat) x, s.o[i]? = some x → x.1 < s.d.length ∧ x.2 ≤ 263
  ds : ∀ l ∈ s.d, l.length ≤ 8
/-- What is always so. -/
structure FOk (s : Fs) : Prop where
  m : FOm s
  ok : Ok s.t.l
  n8 : s.t.l.length ≤ 8
  nx : 0 ≤ s.t.nx
  ids : ∀ i ∈ s.t.l, 0 ≤ i.n ∧ i.n < s.d.length
  dn : (s.d.length : Int) ≤ s.t.nx
theorem ofI_lt {s : Fs} (h : FOm s) {fd i : Nat} (hi : ofI s fd = some i) : fd < 4 ∧ i < s.o.length ∧ s.fd[fd]? = some (i : Int) := by
  unfold ofI at hi
  cases hk : s.fd[fd]? with
  | none => rw [hk] at hi; cases hi
  | some k =>
    rw [hk] at hi
    simp only at hi
    have h1 := h.fds fd k hk
    have h2 := (List.getElem?_eq_some_iff.1 hk).1
    rw [h.fl] at h2
    split at hi
    · cases hi
    · cases hi
      exact ⟨h2, by omega, by congr 1; omega⟩
theorem freeI_lt {fd : List Int} (h : ¬ freeI fd < 0) : ∃ n : Nat, freeI fd = n ∧ n < fd.length := by
  unfold freeI at h ⊢
  cases hk : fd.findIdx? (fun k => decide (k < 0)) with
  | none => rw [hk] at h; simp at h
  | some i => exact ⟨i, rfl, (List.findIdx?_eq_some_iff_findIdx_eq.1 hk).1⟩
theorem get_get {s : Fs} {i : Nat} (hi : i < s.o.length) : s.o[i]? = some (filI s i, offI s i) := by
  unfold filI offI
  rw [List.getElem?_eq_getElem hi]; rfl
theorem get_dat {s : Fs} (h : FOm s) {i : Nat} (hi : i < s.o.length) : filI s i < s.d.length ∧ s.d[filI s i]? = some (datI s i) ∧ (datI s i).length ≤ 8 ∧ offI s i ≤ 263 := by
  have h1 := h.os i _ (get_get hi)
  have h2 : s.d[filI s i]? = some (datI s i) := by unfold datI; rw [List.getElem?_eq_getElem h1.1]; rfl
  exact ⟨h1.1, h2, h.ds _ (List.mem_of_getElem? h2), h1.2⟩
end Go.Proofs.Ytckoapfmfpmdgaa

namespace Go.Proofs.Ytckoapfmfpmdgaa
set_option linter.unusedVariables false

section
variable {s : Fs}
theorem FOm.fdset (h : FOm s) {i : Nat} {k : Int} (hk : -1 ≤ k ∧ k < s.o.length) : FOm { s with fd := s.fd.set i k } := by
  refine ⟨by simp [h.fl], fun j q hq => ?_, h.os, h.ds⟩
  rw [List.getElem?_set] at hq
  split at hq
  · split at hq
    · cases hq; exact hk
    · cases hq
  · exact h.fds j q hq
theorem FOm.oset (h : FOm s) {i f a : Nat} (hx : f < s.d.length ∧ a ≤ 263) : FOm { s with o := s.o.set i (f, a) } := by
  refine ⟨h.fl, fun j q hq => by simpa using h.fds j q hq, fun j x hj => ?_, h.ds⟩
  rw [List.getElem?_set] at hj
  split at hj
  · split at hj
    · cases hj; exact hx
    · cases hj
  · exact h.os j x hj
theorem FOm.oadd (h : FOm s) {x : Nat × Nat} (hx : x.1 < s.d.length ∧ x.2 ≤ 263) : FOm { s with o := s.o ++ [x] } := by
  refine ⟨h.fl, fun j q hq => ?_, fun j y hj => ?_, h.ds⟩
  · have := h.fds j q hq
    refine ⟨this.1, ?_⟩
    show q < ((s.o ++ [x]).length : Int)
    rw [List.length_append, List.length_singleton]; omega
  · by_cases hl : j < s.o.length
    · rw [List.getElem?_append_left hl] at hj
      exact h.os j y hj
    · rw [List.getElem?_append_right (by omega)] at hj
      cases hq : j - s.o.length with
      | zero => rw [hq] at hj; simp only [List.getElem?_cons_zero, Option.some.injEq] at hj; subst hj; exact hx
      | succ n => rw [hq] at hj; simp at hj
theorem FOm.dset (h : FOm s) {f : Nat} {l : List UInt8} (hl : l.length ≤ 8) : FOm { s with d := s.d.set f l } := by
  refine ⟨h.fl, h.fds, fun j x hj => by simpa using h.os j x hj, fun m hm => ?_⟩
  rcases List.mem_or_eq_of_mem_set hm with h1 | h1
  · exact h.ds m h1
  · rw [h1]; exact hl
theorem FOm.tset (h : FOm s) (t : St) : FOm { s with t := t } := ⟨h.fl, h.fds, h.os, h.ds⟩
theorem padD_len (d : List (List UInt8)) (n : Int) : (padD d n).length = d.length + (n + 1 - d.length).toNat := by simp [padD]
theorem FOm.pad (h : FOm s) (n : Int) : FOm { s with d := padD s.d n } := by
  refine ⟨h.fl, h.fds, fun j x hj => ?_, fun m hm => ?_⟩
  · have := h.os j x hj
    refine ⟨?_, this.2⟩
    show x.1 < (padD s.d n).length
    rw [padD_len]; omega
  · rcases List.mem_append.1 hm with h1 | h1
    · exact h.ds m h1
    · rw [(List.mem_replicate.1 h1).2]; decide
/-- Only descriptors, offsets, bytes. -/
theorem FOk.rest (h : FOk s) {s' : Fs} (m : FOm s') (ht : s'.t = s.t) (hd : s'.d.length = s.d.length) : FOk s' :=
  ⟨m, by rw [ht]; exact h.ok, by rw [ht]; exact h.n8, by rw [ht]; exact h.nx, by rw [ht, hd]; exact h.ids, by rw [ht, hd]; exact h.dn⟩
/-- What is in the tree was in it, under its number. -/
structure Sub (t t' : St) : Prop where
  ok : Ok t'.l
  len : t'.l.length ≤ t.l.length
  nx : t'.nx = t.nx
  ids : ∀ i ∈ t'.l, ∃ j ∈ t.l, j.n = i.n
theorem Sub.refl {t : St} (h : Ok t.l) : Sub t t := ⟨h, Nat.le_refl _, rfl, fun i hi => ⟨i, hi, rfl⟩⟩
theorem FOk.sub (h : FOk s) {t' : St} (k : Sub s.t t') : FOk { s with t := t' } :=
  ⟨h.m.tset t', k.ok, Nat.le_trans k.len h.n8, by show 0 ≤ t'.nx; rw [k.nx]; exact h.nx, fun i hi => by obtain ⟨j, hj, e⟩ := k.ids i hi; rw [← e]; exact h.ids j hj, by show _ ≤ t'.nx; rw [k.nx]; exact h.dn⟩
theorem drop_sub {t : St} (h : Ok t.l) (p : List UInt8) (d : Bool) : Sub t (dropT t p d).2 := by
  refine ⟨drop_ok h p d, ?_, ?_, ?_⟩ <;> unfold dropT <;> (repeat' split)
  all_goals first
    | exact Nat.le_refl _
    | rfl
    | exact fun i hi => ⟨i, hi, rfl⟩
    | exact List.length_eraseP_le
    | exact fun i hi => ⟨i, erase_mem hi, rfl⟩
theorem ren_ids {a b : List UInt8} {l : List Itm} : ∀ i ∈ ren a b l, ∃ j ∈ l, j.n = i.n := fun i hi => by
  rcases mem_ren hi with ⟨j, hj, _, e⟩ | h
  · exact ⟨j, hj, by rw [e]⟩
  · exact ⟨i, h, rfl⟩
theorem move_sub {t : St} (h : Ok t.l) (a b : List UInt8) : Sub t (moveT t a b).2 := by
  refine ⟨move_ok h a b, ?_, ?_, ?_⟩ <;> unfold moveT <;> (repeat' split)
  all_goals first
    | exact Nat.le_refl _
    | rfl
    | exact fun i hi => ⟨i, hi, rfl⟩
    | (show (ren _ _ _).length ≤ _; rw [ren_len]; first | exact Nat.le_refl _ | exact List.length_eraseP_le)
    | exact ren_ids
    | exact fun i hi => by obtain ⟨j, hj, e⟩ := ren_ids i hi; exact ⟨j, erase_mem hj, e⟩
theorem make_cases {t : St} (p : List UInt8) (d : Bool) : ((makeT t p d).1.2 ≠ 0 ∧ (makeT t p d).2 = t) ∨ ((makeT t p d).1 = (t.nx, 0) ∧ (makeT t p d).2 = ⟨t.l ++ [⟨p, d, t.nx⟩], t.nx + 1⟩ ∧ t.l.length < 8) := by
  unfold makeT
  split
  · split
    · split
      · exact .inl ⟨by simp, rfl⟩
      · split
        · exact .inl ⟨by simp, rfl⟩
        · split
          · exact .inl ⟨by simp, rfl⟩
          · exact .inr ⟨rfl, rfl, by omega⟩
    · exact .inl ⟨by simpa using ‹¬ abv t.l p = 0›, rfl⟩
  · exact .inl ⟨by simp, rfl⟩
theorem FOk.make (h : FOk s) {p : List UInt8} {d : Bool} (h0 : (makeT s.t p d).1.2 = 0) : FOk { s with t := (makeT s.t p d).2, d := padD s.d (makeT s.t p d).1.1 } := by
  have hk := make_ok h.ok p d
  rcases make_cases (t := s.t) p d with ⟨h1, _⟩ | ⟨e1, e2, h8⟩
  · exact absurd h0 h1
  · have hn := h.nx
    have hd := h.dn
    have hl : ((padD s.d s.t.nx).length : Int) = s.t.nx + 1 := by rw [padD_len]; omega
    refine ⟨((h.m.pad _).tset _), hk, ?_, ?_, ?_, ?_⟩
    · show (makeT s.t p d).2.l.length ≤ 8
      rw [e2]; simp; omega
    · show 0 ≤ (makeT s.t p d).2.nx
      rw [e2]; show 0 ≤ s.t.nx + 1; omega
    · intro i hi
      have hi : i ∈ (makeT s.t p d).2.l := hi
      show 0 ≤ i.n ∧ i.n < ((padD s.d (makeT s.t p d).1.1).length : Int)
      rw [e2] at hi
      rw [e1, hl]
      rcases List.mem_append.1 hi with h1 | h1
      · have := h.ids i h1; omega
      · rw [List.mem_singleton.1 h1]; exact ⟨hn, Int.lt_succ _⟩
    · show ((padD s.d (makeT s.t p d).1.1).length : Int) ≤ (makeT s.t p d).2.nx
      rw [e1, e2, hl]; exact Int.le_refl _
theorem FOk.opn (h : FOk s) {n f : Nat} (hf : f < s.d.length) : FOk { s with fd := s.fd.set n s.o.length, o := s.o ++ [(f, 0)] } :=
  h.rest ((h.m.oadd (x := (f, 0)) ⟨hf, Nat.zero_le _⟩).fdset (i := n) (k := s.o.length) ⟨by omega, by show (s.o.length : Int) < ((s.o ++ [(f, 0)]).length : Int); simp; omega⟩) rfl rfl
theorem find_id {l : List Itm} {p : List UInt8} (h : (findT l p).2.2 = 0) : ∃ i ∈ l, i.n = (findT l p).1 := by
  unfold findT at h ⊢
  split at h
  · rename_i hn
    rw [if_pos hn]
    split at h
    · rename_i h0
      rw [if_pos h0]
      cases hk : look l p with
      | none => rw [hk] at h; simp at h
      | some i => exact ⟨i, look_mem hk, rfl⟩
    · rename_i h0
      exact absurd h h0
  · simp at h
theorem FOk.open_ (h : FOk s) (p : List UInt8) : FOk (openF s p).2 := by
  unfold openF
  split
  · split
    · exact h
    · split
      · exact h
      · split
        · exact h
        · split
          · rename_i h0
            obtain ⟨i, hi, e⟩ := find_id h0
            have := h.ids i hi
            exact h.opn (by omega)
          · split
            · rename_i h1
              rcases make_cases (t := s.t) p false with ⟨_, e⟩ | ⟨e, _⟩
              · rw [e]; exact h
              · rw [e] at h1; exact absurd rfl h1
            · rename_i h1
              have h1 : (makeT s.t p false).1.2 = 0 := by simpa using h1
              have h2 := h.make h1
              refine h2.opn ?_
              show _ < (padD s.d (makeT s.t p false).1.1).length
              rcases make_cases (t := s.t) p false with ⟨h3, _⟩ | ⟨e, _⟩
              · exact absurd h1 h3
              · rw [e, padD_len]
                have := h.nx
                show (s.t.nx).toNat < _
                omega
  · exact h
theorem FOk.name (h : FOk s) (op : Int) (a b : List UInt8) : FOk (nameF s op a b).2 := by
  unfold nameF
  split
  · exact h.sub (drop_sub h.ok _ _)
  · split
    · exact h.sub (move_sub h.ok _ _)
    · split
      · by_cases h0 : (makeT s.t a true).1.2 = 0
        · simp only [h0, if_true]
          exact h.make h0
        · simp only [h0, if_false]
          rcases make_cases (t := s.t) a true with ⟨_, e⟩ | ⟨e, _⟩
          · rw [e]; exact h
          · rw [e] at h0; exact absurd rfl h0
      · split
        · exact h.sub (drop_sub h.ok _ _)
        · split
          · exact h
          · exact h
theorem FOk.close (h : FOk s) (fd : Nat) : FOk (closeF s fd).2 := by
  unfold closeF
  split
  · exact h
  · exact h.rest (h.m.fdset ⟨by omega, by omega⟩) rfl rfl
theorem FOk.twin (h : FOk s) (fd : Nat) : FOk (twinF s fd).2 := by
  unfold twinF
  split
  · exact h
  · rename_i i hi
    split
    · exact h
    · have := ofI_lt h.m hi
      exact h.rest (h.m.fdset ⟨by omega, by omega⟩) rfl rfl
theorem FOk.seek (h : FOk s) (fd a : Nat) : FOk (seekF s fd a).2 := by
  unfold seekF
  split
  · exact h
  · rename_i i hi
    split
    · exact h
    · have := ofI_lt h.m hi
      have h2 := get_dat h.m this.2.1
      exact h.rest (h.m.oset ⟨h2.1, by omega⟩) rfl rfl
theorem FOk.trunc (h : FOk s) (fd n : Nat) : FOk (truncF s fd n).2 := by
  unfold truncF
  split
  · exact h
  · rename_i i hi
    split
    · exact h
    · exact h.rest (h.m.dset (by unfold cutL; simp; omega)) rfl (by simp)
theorem FOk.read (h : FOk s) (fd n : Nat) : FOk (readF s fd n).2 := by
  unfold readF
  split
  · exact h
  · rename_i i hi
    split
    · exact h
    · have := ofI_lt h.m hi
      have h2 := get_dat h.m this.2.1
      exact h.rest (h.m.oset ⟨h2.1, by unfold manyR; omega⟩) rfl rfl
theorem putL_len8 {l : List UInt8} {a : Nat} {b : List UInt8} (hl : l.length ≤ 8) (ha : a < 8) (hb : a + b.length ≤ 8) : (putL l a b).length ≤ 8 := by
  unfold putL
  simp
  omega
theorem FOk.write (h : FOk s) (fd : Nat) (b : List UInt8) : FOk (writeF s fd b).2 := by
  unfold writeF
  split
  · exact h
  · rename_i i hi
    split
    · exact h
    · split
      · exact h
      · have := ofI_lt h.m hi
        have h2 := get_dat h.m this.2.1
        refine h.rest ((h.m.dset (putL_len8 h2.2.2.1 (by omega) (by simp; omega))).oset (i := i) ⟨by simpa using h2.1, by omega⟩) rfl (by simp)
end
/-- A file system in which nothing is open. -/
theorem FOk.start {t : St} {d : List (List UInt8)} (ok : Ok t.l) (n8 : t.l.length ≤ 8) (hd : (d.length : Int) = t.nx) (ids : ∀ i ∈ t.l, 0 ≤ i.n ∧ i.n < t.nx) (ds : ∀ l ∈ d, l.length ≤ 8) : FOk ⟨t, d, [], [-1, -1, -1, -1]⟩ := by
  refine ⟨⟨rfl, fun i k hk => ?_, fun i x hx => by simp at hx, ds⟩, ok, n8, by show 0 ≤ t.nx; omega, fun i hi => ?_, by show (d.length : Int) ≤ t.nx; omega⟩
  · have : k ∈ [(-1 : Int), -1, -1, -1] := List.mem_of_getElem? hk
    simp at this
    subst this
    exact ⟨by omega, by show (-1 : Int) < (([] : List (Nat × Nat)).length : Int); simp⟩
  · have := ids i hi
    show 0 ≤ i.n ∧ i.n < (d.length : Int)
    omega
theorem from_ids : ∀ (es : List (List UInt8 × Bool)) (k : Nat) (l l' : List Itm), (∀ i ∈ l, 0 ≤ i.n ∧ i.n < (k : Int)) → fromT es k l = some l' → ∀ i ∈ l', 0 ≤ i.n ∧ i.n < ((k + es.length : Nat) : Int)
  | [], k, l, l', h, he => by cases he; exact h
  | e :: es, k, l, l', h, he => by
    rw [fromT] at he
    cases hp : putT l e.1 e.2 k with
    | none => rw [hp] at he; cases he
    | some m =>
      rw [hp] at he
      have hm : m = l ++ [⟨e.1, e.2, (k : Int)⟩] := by
        unfold putT at hp
        repeat' split at hp
        all_goals first
          | exact (Option.some.inj hp).symm
          | cases hp
      have := from_ids es (k + 1) m l' (fun i hi => by
        rw [hm] at hi
        rcases List.mem_append.1 hi with h1 | h1
        · have := h i h1; omega
        · rw [List.mem_singleton.1 h1]
          exact ⟨Int.natCast_nonneg k, by show (k : Int) < ((k + 1 : Nat) : Int); omega⟩) he
      intro i hi
      have := this i hi
      rw [List.length_cons]
      omega
theorem new_ids {es : List (List UInt8 × Bool)} {t : St} (h : newT es = some t) : ∀ i ∈ t.l, 0 ≤ i.n ∧ i.n < t.nx := by
  unfold newT at h
  split at h
  · cases h
  · cases hf : fromT es 0 [] with
    | none => rw [hf] at h; cases h
    | some l =>
      rw [hf] at h
      cases h
      have := from_ids es 0 [] l (fun i hi => by cases hi) hf
      intro i hi
      have := this i hi
      rw [Nat.zero_add] at this
      exact this
end Go.Proofs.Ytckoapfmfpmdgaa
