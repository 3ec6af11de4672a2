/-
  Parts of the proof, joined: DpllCm.
-/
import Derived.Test.YtpmdnbdmocdngaaGreatMh16

namespace Go.Proofs.YtpmdnbdmocdngaaGreat
open Go.RowKit
set_option linter.unusedVariables false
set_option linter.unusedSimpArgs false

theorem lev_mono (ma : List Nat) {i j : Nat} (h : j ≤ i) : lev ma j ≤ lev ma i := by
  unfold lev
  induction ma with
  | nil => simp
  | cons m ma ih =>
    simp only [List.filter_cons]
    by_cases h1 : m ≤ j
    · rw [if_pos (by simpa using h1), if_pos (by simp; omega)]; simp; exact ih
    · rw [if_neg (by simpa using h1)]
      by_cases h2 : m ≤ i
      · rw [if_pos (by simpa using h2)]; simp; omega
      · rw [if_neg (by simpa using h2)]; exact ih
theorem lev_mark {ma : List Nat} {i j : Nat} (hm : i ∈ ma) (h : j < i) : lev ma j < lev ma i := by
  induction ma with
  | nil => cases hm
  | cons m ma ih =>
    unfold lev
    simp only [List.filter_cons]
    rcases List.mem_cons.1 hm with rfl | hm
    · rw [if_neg (by simp; omega), if_pos (by simp)]
      have := lev_mono ma (Nat.le_of_lt h)
      unfold lev at this
      simp; omega
    · have ih := ih hm
      unfold lev at ih
      by_cases h1 : m ≤ j
      · rw [if_pos (by simpa using h1), if_pos (by simp; omega)]; simp; exact ih
      · rw [if_neg (by simpa using h1)]
        by_cases h2 : m ≤ i
        · rw [if_pos (by simpa using h2)]; simp; omega
        · rw [if_neg (by simpa using h2)]; exact ih
/-- Is a number noted. -/
def sn (s : Nt) (q : Nat) : Bool := s.se.getD (q / 2) false
/-- How many of a list are noted and hang on the last decision. -/
def cntL (d : Sd) (se : List Bool) (l : List Nat) : Nat := (l.filter fun q => se.getD (q / 2) false && decide (dpt d.dp q = d.ma.length)).length
theorem cntL_snoc (d : Sd) (se : List Bool) (l : List Nat) (x : Nat) : cntL d se (l ++ [x]) = cntL d se l + if se.getD (x / 2) false = true ∧ dpt d.dp x = d.ma.length then 1 else 0 := by
  unfold cntL
  rw [List.filter_append, List.length_append]
  congr 1
  by_cases h : se.getD (x / 2) false = true ∧ dpt d.dp x = d.ma.length
  · rw [if_pos h, List.filter_cons, if_pos (by simp only [Bool.and_eq_true, decide_eq_true_eq]; exact h)]; rfl
  · rw [if_neg h, List.filter_cons, if_neg (by simp only [Bool.and_eq_true, decide_eq_true_eq]; exact h)]; rfl
theorem cntL_out (d : Sd) (se : List Bool) {v : Nat} : ∀ (l : List Nat), v ∉ l.map (· / 2) → cntL d (se.set v true) l = cntL d se l
  | [], _ => rfl
  | a :: l, h => by
    rw [List.map_cons, List.mem_cons, not_or] at h
    have ih := cntL_out d se l h.2
    unfold cntL at ih ⊢
    have e : (se.set v true).getD (a / 2) false = se.getD (a / 2) false := by rw [getD_set, if_neg (fun k => h.1 k.1)]
    simp only [List.filter_cons, e]
    split
    · rw [List.length_cons, List.length_cons, ih]
    · exact ih
theorem cntL_in (d : Sd) (se : List Bool) {q : Nat} (hv : q / 2 < se.length) (hf : se.getD (q / 2) false = false) : ∀ (l : List Nat), (l.map (· / 2)).Nodup → q ∈ l → cntL d (se.set (q / 2) true) l = cntL d se l + if dpt d.dp q = d.ma.length then 1 else 0
  | [], _, h => by cases h
  | a :: l, hnd, h => by
    rw [List.map_cons, List.nodup_cons] at hnd
    rcases List.mem_cons.1 h with rfl | h
    · have ih := cntL_out d se l hnd.1
      unfold cntL at ih ⊢
      have e : (se.set (q / 2) true).getD (q / 2) false = true := by rw [getD_set, if_pos ⟨rfl, hv⟩]
      simp only [List.filter_cons, e, hf]
      rw [Bool.true_and, Bool.false_and]
      by_cases hd : dpt d.dp q = d.ma.length
      · rw [if_pos (by simpa using hd), if_neg (by decide), if_pos hd, List.length_cons, ih]
      · rw [if_neg (by simpa using hd), if_neg (by decide), if_neg hd, ih]; rfl
    · have ih := cntL_in d se hv hf l hnd.2 h
      have hne : q / 2 ≠ a / 2 := fun e => hnd.1 (by rw [← e]; exact List.mem_map.2 ⟨q, h, rfl⟩)
      unfold cntL at ih ⊢
      have e : (se.set (q / 2) true).getD (a / 2) false = se.getD (a / 2) false := by rw [getD_set, if_neg (fun k => hne k.1)]
      simp only [List.filter_cons, e]
      split
      · rw [List.length_cons, List.length_cons, ih]; omega
      · exact ih
/-- What holds while claims are noted, of what stands below i in the trail. -/
structure Gn (n : Nat) (d : Sd) (i c0 : Nat) (s : Nt) : Prop where
  len : s.se.length = n
  nd : s.nu.Nodup
  nu : ∀ v, v ∈ s.nu ↔ s.se.getD v false = true
  at_ : ∀ v, s.se.getD v false = true → ∃ j q, d.tr[j]? = some q ∧ q / 2 = v ∧ 1 ≤ lev d.ma j
  tl : ∀ q ∈ s.ls.tail, sn s q = true ∧ ∃ j, d.tr[j]? = some (oth q) ∧ 1 ≤ lev d.ma j ∧ lev d.ma j < d.ma.length
  tnd : (s.ls.tail.map (· / 2)).Nodup
  full : ∀ j q, d.tr[j]? = some q → sn s q = true → lev d.ma j < d.ma.length → oth q ∈ s.ls.tail
  cnt : cntL d s.se (d.tr.take i) = c0 + s.last
  pos : 0 < s.ls.length
section
variable {n : Nat} {K0 : Nat → Prop} {Mo : (Nat → Bool) → Prop} {d : Sd} {i c0 : Nat} {s : Nt}
theorem Tl.uniq (t : Tl n K0 d) {j j' q q' : Nat} (h : d.tr[j]? = some q) (h' : d.tr[j']? = some q') (e : q / 2 = q' / 2) : j = j' ∧ q = q' := by
  have hj : (d.tr.map (· / 2))[j]? = some (q / 2) := by simp [h]
  have hj' : (d.tr.map (· / 2))[j']? = some (q' / 2) := by simp [h']
  have ej : j = j' := by
    by_cases ne : j = j'
    · exact ne
    · exact absurd e (nd_ne t.nd ne hj hj')
  subst ej
  rw [h] at h'
  injection h' with h'
  exact ⟨rfl, h'⟩
theorem Tl.dat (t : Tl n K0 d) {j q : Nat} (h : d.tr[j]? = some q) : dpt d.dp q = lev d.ma j := dpt_of (t.dp j q h)
theorem dpt_oth (dp : List Nat) (x : Nat) : dpt dp (oth x) = dpt dp x := by unfold dpt; rw [oth_half]
theorem Gn.one (t : Tl n K0 d) (g : Gn n d i c0 s) {x : Nat} (hx : sn s x = true ∨ ∃ j, j < i ∧ d.tr[j]? = some (oth x)) : Gn n d i c0 (Nt.one d.dp d.ma.length s x) ∧ (dpt d.dp x = 0 ∨ sn (Nt.one d.dp d.ma.length s x) x = true) ∧ (∀ y, sn s y = true → sn (Nt.one d.dp d.ma.length s x) y = true) ∧ (∃ e, (Nt.one d.dp d.ma.length s x).ls = s.ls ++ e) := by
  unfold Nt.one
  by_cases h : s.se.getD (x / 2) false = true ∨ dpt d.dp x = 0
  · rw [if_pos h]
    exact ⟨g, h.elim .inr .inl, fun _ h => h, [], by simp⟩
  · rw [if_neg h]
    have hns : s.se.getD (x / 2) false = false := by cases e : s.se.getD (x / 2) false with
      | true => exact absurd (.inl e) h
      | false => rfl
    have hd0 : dpt d.dp x ≠ 0 := fun e => h (.inr e)
    obtain ⟨j, hji, hj⟩ := hx.resolve_left (by unfold sn; rw [hns]; decide)
    have hq := t.tl _ (List.mem_of_getElem? hj)
    have hv : x / 2 < s.se.length := by rw [g.len, ← oth_half x]; omega
    have hdx : dpt d.dp x = lev d.ma j := by rw [← dpt_oth, t.dat hj]
    have set_self : (s.se.set (x / 2) true).getD (x / 2) false = true := by rw [getD_set, if_pos ⟨rfl, hv⟩]
    have set_mono : ∀ v, s.se.getD v false = true → (s.se.set (x / 2) true).getD v false = true := fun v hs => by
      rw [getD_set]; split
      · rfl
      · exact hs
    have set_case : ∀ v, (s.se.set (x / 2) true).getD v false = true → v = x / 2 ∨ s.se.getD v false = true := fun v hs => by
      rw [getD_set] at hs
      split at hs
      · rename_i k; exact .inl k.1.symm
      · exact .inr hs
    have hcin : cntL d (s.se.set (x / 2) true) (d.tr.take i) = cntL d s.se (d.tr.take i) + if dpt d.dp x = d.ma.length then 1 else 0 := by
      have hm : oth x ∈ d.tr.take i := List.mem_of_getElem? (i := j) (by rw [List.getElem?_take_of_lt hji]; exact hj)
      have := cntL_in d s.se (q := oth x) (by rw [oth_half]; exact hv) (by rw [oth_half]; exact hns) (d.tr.take i) (t.nd.sublist ((List.take_sublist _ _).map _)) hm
      rw [oth_half, dpt_oth] at this
      exact this
    have ltail : ∀ e : List Nat, (s.ls ++ e).tail = s.ls.tail ++ e := fun e => by
      obtain ⟨z, l, hz⟩ : ∃ z l, s.ls = z :: l := by
        cases hl : s.ls with
        | nil => have := g.pos; rw [hl] at this; cases this
        | cons z l => exact ⟨z, l, rfl⟩
      rw [hz]; rfl
    refine ⟨⟨by show (s.se.set _ _).length = n; rw [List.length_set]; exact g.len, ?_, fun v => ?_, fun v hs => ?_, fun q hq2 => ?_, ?_, fun j' q' hj' hs hl => ?_, ?_, ?_⟩, .inr set_self, fun y hy => set_mono _ hy, ?_⟩
    · show (s.nu ++ [x / 2]).Nodup
      rw [List.nodup_append]
      exact ⟨g.nd, by simp, fun a ha b hb e => by
        have hb : b = x / 2 := by simpa using hb
        subst hb; subst e
        rw [(g.nu _).1 ha] at hns; cases hns⟩
    · show v ∈ s.nu ++ [x / 2] ↔ _
      rw [List.mem_append, List.mem_singleton, g.nu]
      constructor
      · rintro (h | rfl)
        · exact set_mono v h
        · exact set_self
      · intro h
        exact (set_case v h).symm.imp id id
    · rcases set_case v hs with rfl | hs
      · exact ⟨j, oth x, hj, oth_half x, by omega⟩
      · exact g.at_ v hs
    · have hq2 : q ∈ (if dpt d.dp x = d.ma.length then s.ls else s.ls ++ [x]).tail := hq2
      by_cases hL : dpt d.dp x = d.ma.length
      · rw [if_pos hL] at hq2
        obtain ⟨a, b⟩ := g.tl q hq2
        exact ⟨set_mono _ a, b⟩
      · rw [if_neg hL, ltail] at hq2
        rcases List.mem_append.1 hq2 with hq2 | hq2
        · obtain ⟨a, b⟩ := g.tl q hq2
          exact ⟨set_mono _ a, b⟩
        · have := List.mem_singleton.1 hq2
          subst this
          have := lev_le d.ma j
          exact ⟨set_self, j, hj, by omega, by omega⟩
    · show ((if dpt d.dp x = d.ma.length then s.ls else s.ls ++ [x]).tail.map (· / 2)).Nodup
      split
      · exact g.tnd
      · rw [ltail, List.map_append, List.nodup_append]
        refine ⟨g.tnd, by simp, fun a ha b hb e => ?_⟩
        have hb : b = x / 2 := by simpa using hb
        subst hb; subst e
        obtain ⟨q, hq2, e⟩ := List.mem_map.1 ha
        have := (g.tl q hq2).1
        unfold sn at this
        have e : q / 2 = x / 2 := e
        rw [e, hns] at this; cases this
    · show oth q' ∈ (if dpt d.dp x = d.ma.length then s.ls else s.ls ++ [x]).tail
      have hs : (s.se.set (x / 2) true).getD (q' / 2) false = true := hs
      rcases set_case _ hs with e | hs
      · obtain ⟨ej, eq⟩ := t.uniq hj' hj (by rw [oth_half]; exact e)
        subst ej
        have hL : dpt d.dp x ≠ d.ma.length := by omega
        rw [if_neg hL, ltail, eq, oth_oth]
        simp
      · have := g.full j' q' hj' hs hl
        split
        · exact this
        · rw [ltail]; exact List.mem_append_left _ this
    · show cntL d (s.se.set (x / 2) true) (d.tr.take i) = c0 + (if dpt d.dp x = d.ma.length then s.last + 1 else s.last)
      rw [hcin, g.cnt]
      split <;> omega
    · show 0 < (if dpt d.dp x = d.ma.length then s.ls else s.ls ++ [x]).length
      have := g.pos
      split
      · exact this
      · rw [List.length_append]; omega
    · show ∃ e, (if dpt d.dp x = d.ma.length then s.ls else s.ls ++ [x]) = s.ls ++ e
      split
      · exact ⟨[], by simp⟩
      · exact ⟨[x], rfl⟩
theorem Gn.all (t : Tl n K0 d) : ∀ (xs : List Nat) (s : Nt), Gn n d i c0 s → (∀ x ∈ xs, sn s x = true ∨ ∃ j, j < i ∧ d.tr[j]? = some (oth x)) → Gn n d i c0 (Nt.all d.dp d.ma.length s xs) ∧ (∀ x ∈ xs, dpt d.dp x = 0 ∨ sn (Nt.all d.dp d.ma.length s xs) x = true) ∧ (∀ y, sn s y = true → sn (Nt.all d.dp d.ma.length s xs) y = true) ∧ (∃ e, (Nt.all d.dp d.ma.length s xs).ls = s.ls ++ e)
  | [], s, g, _ => ⟨g, (fun x h => by cases h), fun _ h => h, [], by simp [Nt.all]⟩
  | x :: xs, s, g, h => by
    obtain ⟨g1, a1, b1, e1, c1⟩ := g.one t (h x (List.mem_cons_self ..))
    obtain ⟨g2, a2, b2, e2, c2⟩ := Gn.all t xs (Nt.one d.dp d.ma.length s x) g1 (fun y hy => (h y (List.mem_cons_of_mem _ hy)).imp (b1 y) id)
    have e : Nt.all d.dp d.ma.length s (x :: xs) = Nt.all d.dp d.ma.length (Nt.one d.dp d.ma.length s x) xs := rfl
    rw [e]
    refine ⟨g2, fun y hy => ?_, fun y hy => b2 y (b1 y hy), e1 ++ e2, by rw [c2, c1, List.append_assoc]⟩
    rcases List.mem_cons.1 hy with rfl | hy
    · exact a1.imp id (b2 _)
    · exact a2 y hy
/-- What is noted follows from all claims. -/
def Im (Mo : (Nat → Bool) → Prop) (d : Sd) (i : Nat) (s : Nt) : Prop := ∀ m, Mo m → (∃ q ∈ s.ls.tail, lt_ m q = true) ∨ ∃ j q, j < i ∧ d.tr[j]? = some q ∧ sn s q = true ∧ lev d.ma j = d.ma.length ∧ lt_ m (oth q) = true
/-- A claim whose literals are gone, but perhaps for one that is told, is noted: what was told of that one follows without it. -/
theorem im_all (v : Iv n K0 Mo d) {k : Nat} {c : Cl} (hk : d.cls[k]? = some c) {xs : List Nat} (hxs : xs = c.ls) {t : Nt} (gt : Gn n d i c0 t) (hsee : ∀ x ∈ c.ls, dpt d.dp x = 0 ∨ sn t x = true) {m : Nat → Bool} (hm : Mo m) {y : Nat} (hy : y ∈ c.ls) (hyt : lt_ m y = true) (hoth : ∃ j, j < i ∧ d.tr[j]? = some (oth y)) : (∃ q ∈ t.ls.tail, lt_ m q = true) ∨ ∃ j q, j < i ∧ d.tr[j]? = some q ∧ sn t q = true ∧ lev d.ma j = d.ma.length ∧ lt_ m (oth q) = true := by
  obtain ⟨j, hji, hj⟩ := hoth
  have hdy : dpt d.dp y = lev d.ma j := by rw [← dpt_oth, v.T.dat hj]
  have hse : sn t y = true := by
    rcases hsee y hy with h0 | h
    · exfalso
      have := (v.S m hm).2 j _ hj (by omega)
      rw [lt_oth, hyt] at this; cases this
    · exact h
  have hse2 : sn t (oth y) = true := by unfold sn at hse ⊢; rw [oth_half]; exact hse
  have hle := lev_le d.ma j
  by_cases hL : lev d.ma j = d.ma.length
  · exact .inr ⟨j, oth y, hji, hj, hse2, hL, by rw [oth_oth]; exact hyt⟩
  · have := gt.full j (oth y) hj hse2 (by omega)
    rw [oth_oth] at this
    exact .inl ⟨y, this, hyt⟩
end
end Go.Proofs.YtpmdnbdmocdngaaGreat
