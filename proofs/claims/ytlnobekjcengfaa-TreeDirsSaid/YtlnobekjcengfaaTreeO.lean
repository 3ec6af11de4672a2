/-
  What is always so of a tree as plain data: names, none twice, each below a directory; it stays so.
-/
import Derived.Test.YtlnobekjcengfaaTreeM
namespace Go.Proofs.Ytlnobekjcengfaa
set_option linter.unusedVariables false

structure Ok (l : List Itm) : Prop where
  nm : ∀ i ∈ l, nameB i.p = true
  nd : (l.map (·.p)).Nodup
  up : ∀ i ∈ l, (spl i.p).1 ≠ [] → ∃ d ∈ l, d.p = (spl i.p).1 ∧ d.d = true
  flat : ∀ i ∈ l, (spl i.p).1 ≠ [] → i.d = false
theorem Ok.nil : Ok [] := ⟨fun i h => (by cases h), List.nodup_nil, fun i h => (by cases h), fun i h => (by cases h)⟩
theorem look_mem {l : List Itm} {p : List UInt8} {i : Itm} (h : look l p = some i) : i ∈ l := List.mem_of_find?_eq_some h
theorem look_not {l : List Itm} {p : List UInt8} (h : look l p = none) : ∀ i ∈ l, i.p ≠ p := fun i hi e => by
  have := List.find?_eq_none.1 h i hi
  exact this (by simp [is, e])
theorem Ok.same {l : List Itm} (h : Ok l) {i j : Itm} (hi : i ∈ l) (hj : j ∈ l) (e : i.p = j.p) : i = j := by
  have := h.nd
  clear h
  revert hi hj
  induction l with
  | nil => intro hi; cases hi
  | cons x l ih =>
    intro hi hj
    rw [List.map_cons, List.nodup_cons] at this
    rcases List.mem_cons.1 hi with rfl | hi2
    · rcases List.mem_cons.1 hj with rfl | hj2
      · rfl
      · exact absurd (List.mem_map.2 ⟨j, hj2, e.symm⟩) this.1
    · rcases List.mem_cons.1 hj with rfl | hj2
      · exact absurd (show _ ∈ l.map (fun x => x.p) from List.mem_map.2 ⟨i, hi2, e⟩) this.1
      · exact ih this.2 hi2 hj2
theorem abv_up {l : List Itm} {p : List UInt8} (h : abv l p = 0) (hd : (spl p).1 ≠ []) : ∃ d ∈ l, d.p = (spl p).1 ∧ d.d = true := by
  unfold abv at h
  rw [if_neg hd] at h
  cases hk : look l (spl p).1 with
  | none => rw [hk] at h; simp at h
  | some i =>
    rw [hk] at h
    refine ⟨i, look_mem hk, look_path hk, ?_⟩
    cases hi : i.d with
    | true => rfl
    | false => simp [hi] at h
theorem Ok.snoc {l : List Itm} (h : Ok l) {p : List UInt8} {d : Bool} {n : Int} (hn : nameB p = true) (hk : look l p = none) (hu : (spl p).1 ≠ [] → ∃ d ∈ l, d.p = (spl p).1 ∧ d.d = true) (hf : (spl p).1 ≠ [] → d = false) : Ok (l ++ [⟨p, d, n⟩]) := by
  refine ⟨fun i hi => ?_, ?_, fun i hi hd => ?_, fun i hi hd => ?_⟩
  · rcases List.mem_append.1 hi with hi | hi
    · exact h.nm i hi
    · rw [List.mem_singleton.1 hi]; exact hn
  · rw [List.map_append, List.nodup_append]
    refine ⟨h.nd, by simp, fun a ha b hb e => ?_⟩
    obtain ⟨i, hi, rfl⟩ := List.mem_map.1 ha
    simp at hb
    exact look_not hk i hi (e.trans hb)
  · rcases List.mem_append.1 hi with hi | hi
    · obtain ⟨x, hx, h1⟩ := h.up i hi hd
      exact ⟨x, List.mem_append_left _ hx, h1⟩
    · rw [List.mem_singleton.1 hi] at hd ⊢
      obtain ⟨x, hx, h1⟩ := hu hd
      exact ⟨x, List.mem_append_left _ hx, h1⟩
  · rcases List.mem_append.1 hi with hi | hi
    · exact h.flat i hi hd
    · rw [List.mem_singleton.1 hi] at hd ⊢
      exact hf hd
theorem make_ok {s : St} (h : Ok s.l) (p : List UInt8) (dir : Bool) : Ok (makeT s p dir).2.l := by
  unfold makeT
  split
  · split
    · split
      · exact h
      · split
        · exact h
        · split
          · exact h
          · rename_i hn h0 _ hk hf _
            exact h.snoc hn hk (abv_up h0) (fun hd => by
              cases dir with
              | false => rfl
              | true => exact absurd ⟨rfl, hd⟩ hf)
    · exact h
  · exact h
theorem erase_mem {l : List Itm} {p : List UInt8} {j : Itm} (h : j ∈ l.eraseP (is p)) : j ∈ l := List.mem_of_mem_eraseP h
theorem erase_keep {l : List Itm} {p : List UInt8} {j : Itm} (h : j ∈ l) (hp : j.p ≠ p) : j ∈ l.eraseP (is p) := (List.mem_eraseP_of_neg (by simp [is, hp])).2 h
theorem Ok.erase {l : List Itm} (h : Ok l) {p : List UInt8} (hu : ∀ i ∈ l, (spl i.p).1 ≠ [] → (spl i.p).1 = p → False) : Ok (l.eraseP (is p)) := by
  refine ⟨fun i hi => h.nm i (erase_mem hi), (List.Sublist.map _ List.eraseP_sublist).nodup h.nd, fun i hi hd => ?_, fun i hi hd => h.flat i (erase_mem hi) hd⟩
  obtain ⟨x, hx, h1, h2⟩ := h.up i (erase_mem hi) hd
  exact ⟨x, erase_keep hx (fun e => hu i (erase_mem hi) hd (h1.symm.trans e)), h1, h2⟩
theorem mem_ren {a b : List UInt8} {j : Itm} : ∀ {l : List Itm}, j ∈ ren a b l → (∃ i ∈ l, i.p = a ∧ j = ⟨b, i.d, i.n⟩) ∨ j ∈ l
  | [], h => by cases h
  | i :: l, h => by
    rw [ren] at h
    split at h
    · rename_i e
      rcases List.mem_cons.1 h with rfl | h
      · exact .inl ⟨i, List.mem_cons_self, e, rfl⟩
      · exact .inr (List.mem_cons_of_mem _ h)
    · rcases List.mem_cons.1 h with rfl | h
      · exact .inr List.mem_cons_self
      · rcases mem_ren h with ⟨x, hx, h1⟩ | h
        · exact .inl ⟨x, List.mem_cons_of_mem _ hx, h1⟩
        · exact .inr (List.mem_cons_of_mem _ h)
theorem ren_mem {a b : List UInt8} {j : Itm} (hj : j.p ≠ a) : ∀ {l : List Itm}, j ∈ l → j ∈ ren a b l
  | i :: l, h => by
    rw [ren]
    split
    · rename_i e
      rcases List.mem_cons.1 h with rfl | h
      · exact absurd e hj
      · exact List.mem_cons_of_mem _ h
    · rcases List.mem_cons.1 h with rfl | h
      · exact List.mem_cons_self
      · exact List.mem_cons_of_mem _ (ren_mem hj h)
theorem ren_nd {a b : List UInt8} : ∀ {l : List Itm}, (l.map (·.p)).Nodup → (∀ i ∈ l, i.p ≠ b) → ((ren a b l).map (·.p)).Nodup
  | [], _, _ => List.nodup_nil
  | i :: l, h, hb => by
    rw [List.map_cons, List.nodup_cons] at h
    rw [ren]
    split
    · rw [List.map_cons, List.nodup_cons]
      refine ⟨fun e => ?_, h.2⟩
      obtain ⟨x, hx, h1⟩ := List.mem_map.1 e
      exact hb x (List.mem_cons_of_mem _ hx) h1
    · rw [List.map_cons, List.nodup_cons]
      refine ⟨fun e => ?_, ren_nd h.2 (fun x hx => hb x (List.mem_cons_of_mem _ hx))⟩
      obtain ⟨x, hx, h1⟩ := List.mem_map.1 e
      rcases mem_ren hx with ⟨y, _, _, rfl⟩ | hx
      · exact hb i List.mem_cons_self h1.symm
      · exact h.1 (List.mem_map.2 ⟨x, hx, h1⟩)
theorem Ok.rename {l : List Itm} (h : Ok l) {a b : List UInt8} {i : Itm} (hk : look l a = some i) (hi : i.d = false) (hn : nameB b = true) (hb : ∀ i ∈ l, i.p ≠ b) (hu : (spl b).1 ≠ [] → ∃ d ∈ l, d.p = (spl b).1 ∧ d.d = true) : Ok (ren a b l) := by
  have hf : ∀ x ∈ l, x.p = a → x.d = false := fun x hx e => by rw [h.same hx (look_mem hk) (e.trans (look_path hk).symm)]; exact hi
  have dirs : ∀ x ∈ l, x.d = true → x ∈ ren a b l := fun x hx hd => ren_mem (fun e => by rw [hf x hx e] at hd; cases hd) hx
  refine ⟨fun j hj => ?_, ren_nd h.nd hb, fun j hj hd => ?_, fun j hj hd => ?_⟩
  · rcases mem_ren hj with ⟨x, _, _, rfl⟩ | hj
    · exact hn
    · exact h.nm j hj
  · rcases mem_ren hj with ⟨x, _, _, rfl⟩ | hj
    · obtain ⟨y, hy, h1, h2⟩ := hu hd
      exact ⟨y, dirs y hy h2, h1, h2⟩
    · obtain ⟨y, hy, h1, h2⟩ := h.up j hj hd
      exact ⟨y, dirs y hy h2, h1, h2⟩
  · rcases mem_ren hj with ⟨x, hx, he, rfl⟩ | hj
    · exact hf x hx he
    · exact h.flat j hj hd
theorem find0 {l : List Itm} {p : List UInt8} (h : (findT l p).2.2 = 0) : nameB p = true ∧ abv l p = 0 ∧ ∃ i, look l p = some i ∧ findT l p = (i.n, i.d, 0) := by
  unfold findT at h ⊢
  by_cases hb : nameB p = true
  · rw [if_pos hb] at h ⊢
    by_cases h0 : abv l p = 0
    · rw [if_pos h0] at h ⊢
      cases hk : look l p with
      | none => rw [hk] at h; simp at h
      | some i => exact ⟨hb, h0, i, rfl, rfl⟩
    · rw [if_neg h0] at h; exact absurd h h0
  · rw [if_neg hb] at h; simp at h
/-- What is no directory has nothing in it. -/
theorem Ok.none_in {l : List Itm} (h : Ok l) {p : List UInt8} {i : Itm} (hk : look l p = some i) (hi : i.d = false) : ∀ j ∈ l, (spl j.p).1 ≠ [] → (spl j.p).1 = p → False := fun j hj hd e => by
  obtain ⟨x, hx, h1, h2⟩ := h.up j hj hd
  have : x = i := h.same hx (look_mem hk) (by rw [h1, e, look_path hk])
  rw [this, hi] at h2; cases h2
theorem drop_ok {s : St} (h : Ok s.l) (p : List UInt8) (dir : Bool) : Ok (dropT s p dir).2.l := by
  unfold dropT
  split
  · rename_i h0
    obtain ⟨_, _, i, hk, he⟩ := find0 h0
    rw [he]
    split
    · exact h
    · split
      · exact h
      · split
        · exact h
        · rename_i h1 h2 h3
          refine h.erase fun j hj hd e => ?_
          cases hi : i.d with
          | false => exact h.none_in hk hi j hj hd e
          | true =>
            cases hdir : dir with
            | false => exact h1 ⟨hdir, hi⟩
            | true =>
              refine h3 ⟨hdir, ?_⟩
              unfold manyL
              exact List.length_pos_of_mem (List.mem_filter.2 ⟨hj, by simp [e]⟩)
  · exact h
theorem erase_not {l : List Itm} (h : Ok l) {p : List UInt8} : ∀ j ∈ l.eraseP (is p), j.p ≠ p := by
  have := h.nd
  clear h
  induction l with
  | nil => intro j hj; cases hj
  | cons x l ih =>
    rw [List.map_cons, List.nodup_cons] at this
    intro j hj
    by_cases hx : is p x = true
    · rw [List.eraseP_cons_of_pos hx] at hj
      intro e
      exact this.1 (List.mem_map.2 ⟨j, hj, e.trans (eq_of_beq hx).symm⟩)
    · rw [List.eraseP_cons_of_neg hx] at hj
      rcases List.mem_cons.1 hj with rfl | hj
      · exact fun e => hx (by simp [is, e])
      · exact ih this.2 j hj
theorem move_ok {s : St} (h : Ok s.l) (a b : List UInt8) : Ok (moveT s a b).2.l := by
  unfold moveT
  split
  · rename_i h0
    obtain ⟨_, _, i, hk, he⟩ := find0 h0
    rw [he]
    split
    · exact h
    · rename_i hd
      have hi : i.d = false := by simpa using hd
      split
      · rename_i hn
        split
        · rename_i hv
          split
          · exact h
          · rename_i hab
            cases hkb : look s.l b with
            | none => exact h.rename hk hi hn (look_not hkb) (abv_up hv)
            | some j =>
              simp only
              split
              · exact h
              · rename_i hjd
                have hj : j.d = false := by simpa using hjd
                have h' := h.erase (p := b) (h.none_in hkb hj)
                have hk' : look (s.l.eraseP (is b)) a = some i := by
                  have e : ∀ l : List Itm, look (l.eraseP (is b)) a = look l a := by
                    intro l
                    induction l with
                    | nil => rfl
                    | cons x l ih =>
                      by_cases hx : is b x = true
                      · rw [List.eraseP_cons_of_pos hx]
                        unfold look
                        have hna : ¬ is a x = true := fun e => hab ((eq_of_beq e).symm.trans (eq_of_beq hx))
                        rw [List.find?_cons_of_neg hna]
                      · rw [List.eraseP_cons_of_neg hx]
                        unfold look at *
                        by_cases ha : is a x = true
                        · rw [List.find?_cons_of_pos ha, List.find?_cons_of_pos ha]
                        · rw [List.find?_cons_of_neg ha, List.find?_cons_of_neg ha]
                          exact ih
                  rw [e, hk]
                refine h'.rename hk' hi hn (erase_not h) (fun hd => ?_)
                obtain ⟨x, hx, h1, h2⟩ := abv_up hv hd
                refine ⟨x, erase_keep hx (fun e => ?_), h1, h2⟩
                have : x = j := h.same hx (look_mem hkb) (e.trans (look_path hkb).symm)
                rw [this, hj] at h2; cases h2
        · exact h
      · exact h
  · exact h
theorem put_ok {l l' : List Itm} (h : Ok l) {p : List UInt8} {d : Bool} {k : Nat} (hp : putT l p d k = some l') : Ok l' ∧ l'.length = l.length + 1 := by
  unfold putT at hp
  split at hp
  · rename_i hn
    split at hp
    · cases hp
    · rename_i hk
      split at hp
      · rename_i h0
        cases hp
        exact ⟨h.snoc hn hk (fun e => absurd h0 e) (fun e => absurd h0 e), by simp⟩
      · split at hp
        · cases hp
        · rename_i hd
          split at hp
          · cases hp
          · rename_i i hi
            split at hp
            · rename_i hid
              cases hp
              exact ⟨h.snoc hn hk (fun _ => ⟨i, look_mem hi, look_path hi, hid⟩) (fun _ => by simpa using hd), by simp⟩
            · cases hp
  · cases hp
theorem from_ok : ∀ (es : List (List UInt8 × Bool)) (k : Nat) (l l' : List Itm), Ok l → fromT es k l = some l' → Ok l' ∧ l'.length = l.length + es.length
  | [], k, l, l', h, hf => by cases hf; exact ⟨h, rfl⟩
  | e :: es, k, l, l', h, hf => by
    rw [fromT] at hf
    cases hp : putT l e.1 e.2 k with
    | none => rw [hp] at hf; cases hf
    | some l1 =>
      rw [hp] at hf
      obtain ⟨h1, h2⟩ := put_ok h hp
      obtain ⟨h3, h4⟩ := from_ok es (k + 1) l1 l' h1 hf
      exact ⟨h3, by rw [h4, h2, List.length_cons]; omega⟩
theorem new_ok1 {es : List (List UInt8 × Bool)} {s : St} (h : newT es = some s) : Ok s.l ∧ s.l.length = es.length ∧ s.nx = es.length ∧ es.length ≤ 8 := by
  unfold newT at h
  split at h
  · cases h
  · cases hf : fromT es 0 [] with
    | none => rw [hf] at h; cases h
    | some l =>
      rw [hf] at h
      cases h
      obtain ⟨h1, h2⟩ := from_ok es 0 [] l Ok.nil hf
      exact ⟨h1, by simpa using h2, rfl, by omega⟩
end Go.Proofs.Ytlnobekjcengfaa
