/-
  Parts of the proof, joined: DpllI2, DpllE, DpllS.
-/
import Derived.Test.YtpmdnbdmocdngaaGreatMh10

namespace Go.Proofs.YtpmdnbdmocdngaaGreat
open Go.RowKit
set_option linter.unusedVariables false
set_option linter.unusedSimpArgs false

/-- A decision. -/
def Sd.decided (d : Sd) (q : Nat) : Sd := ({ d with ma := d.ma ++ [d.tr.length] } : Sd).held q (-1)
theorem lev_snoc_lt {ma : List Nat} {L j : Nat} (h : j < L) : lev (ma ++ [L]) j = lev ma j := by
  unfold lev
  rw [List.filter_append, List.length_append]
  have : [L].filter (fun m => decide (m ≤ j)) = [] := by rw [List.filter_eq_nil_iff]; intro a ha; have := List.mem_singleton.1 ha; subst this; simp; omega
  rw [this]; rfl
section
variable {n : Nat} {K0 : Nat → Prop} {d : Sd} {q : Nat}
theorem Tl.decided (h : Tl n K0 d) (hx : d.nx = d.tr.length) (hd : d.dp.length = n) (hq : q < 2 * n) (h0 : wv d.wo q = 0) (hk : ¬ K0 q ∧ ¬ K0 (oth q)) : Tl n K0 (d.decided q) := by
  have t := h.held hd hq h0 hk (-1)
  have hop := h.open_ hq h0
  refine ⟨t.w, t.tl, t.nd, t.one, t.k0, ?_, fun m hm => ?_, fun j r hj => ?_, ?_, fun m hm => ?_⟩
  · show (d.ma ++ [d.tr.length]).Pairwise (· < ·)
    rw [List.pairwise_append]
    exact ⟨h.ma, List.pairwise_singleton _ _, fun a ha b hb => by rw [List.mem_singleton.1 hb]; exact h.mb a ha⟩
  · show m < (d.tr ++ [q]).length
    rw [List.length_append]
    have hm : m ∈ d.ma ++ [d.tr.length] := hm
    rcases List.mem_append.1 hm with hm | hm
    · have := h.mb m hm; omega
    · rw [List.mem_singleton.1 hm]; simp
  · show (d.dp.set (q / 2) (d.ma ++ [d.tr.length]).length)[r / 2]? = some (lev (d.ma ++ [d.tr.length]) j)
    have hj : (d.tr ++ [q])[j]? = some r := hj
    by_cases hlt : j < d.tr.length
    · rw [List.getElem?_append_left hlt] at hj
      rw [List.getElem?_set_ne (fun e => hop (by rw [e]; exact List.mem_map.2 ⟨r, List.mem_of_getElem? hj, rfl⟩)), lev_snoc_lt hlt]
      exact h.dp j r hj
    · have := (List.getElem?_eq_some_iff.1 hj).1
      simp at this
      obtain rfl : j = d.tr.length := by omega
      simp at hj
      subst hj
      rw [List.getElem?_set_self (by rw [hd]; omega), lev_all fun m hm => ?_]
      rcases List.mem_append.1 hm with hm | hm
      · exact Nat.le_of_lt (h.mb m hm)
      · rw [List.mem_singleton.1 hm]; exact Nat.le_refl _
  · show d.nx ≤ (d.tr ++ [q]).length
    rw [List.length_append]; omega
  · have hm : m ∈ d.ma ++ [d.tr.length] := hm
    show m ≤ d.nx
    rcases List.mem_append.1 hm with hm | hm
    · exact h.mx m hm
    · rw [List.mem_singleton.1 hm, hx]; exact Nat.le_refl _
theorem Pr.decided {E : Nat → Nat → Prop} (h : Pr d E) (t : Tl n K0 d) (hq : q < 2 * n) (h0 : wv d.wo q = 0) : Pr (d.decided q) E := by
  have hop := t.open_ hq h0
  have key : ∀ x, x / 2 ≠ q / 2 → dpt (d.decided q).dp x = dpt d.dp x := fun x hx => by
    show (d.dp.set (q / 2) (d.ma ++ [d.tr.length]).length).getD (x / 2) 0 = d.dp.getD (x / 2) 0
    rw [getD_set, if_neg (fun e => hx e.1.symm)]
  intro k' c i x hk hi hx hj
  obtain ⟨j, hj1, hj2⟩ := hj
  have hj1 : j < d.nx := hj1
  have hj2 : (d.tr ++ [q])[j]? = some (oth x) := hj2
  rw [List.getElem?_append_left (by have := t.nx; omega)] at hj2
  have hxn : x / 2 ≠ q / 2 := fun e => hop (by rw [← e, ← oth_half x]; exact List.mem_map.2 ⟨oth x, List.mem_of_getElem? hj2, rfl⟩)
  rcases h k' c i x hk hi hx ⟨j, hj1, hj2⟩ with h1 | ⟨y, hy, h1, h2⟩
  · exact .inl h1
  · have hyn : y / 2 ≠ q / 2 := fun e => by
      rcases half_eq (q := q) (r := y) e.symm with rfl | rfl
      · rw [h0] at h1; cases h1
      · rw [t.w.opp q hq, h0] at h1; cases h1
    refine .inr ⟨y, hy, ?_, ?_⟩
    · show wv ((d.wo.set q 1).set (oth q) (-1)) y = 1
      rw [wv_held t.w hq, if_neg (fun e => hyn (by rw [e, oth_half])), if_neg (fun e => hyn (by rw [e]))]
      exact h1
    · rw [key y hyn, key x hxn]; exact h2
theorem Wy.decided (h : Wy d) (t : Tl n K0 d) (hw : d.wy.length = n) (hq : q < 2 * n) (h0 : wv d.wo q = 0) : Wy (d.decided q) := by
  have hop := t.open_ hq h0
  intro j r hj hl
  have hj : (d.tr ++ [q])[j]? = some r := hj
  have hl : 1 ≤ lev (d.ma ++ [d.tr.length]) j := hl
  by_cases hlt : j < d.tr.length
  · rw [List.getElem?_append_left hlt] at hj
    rw [lev_snoc_lt hlt] at hl
    have hr : r / 2 ≠ q / 2 := fun e => hop (by rw [← e]; exact List.mem_map.2 ⟨r, List.mem_of_getElem? hj, rfl⟩)
    have ew : (d.decided q).wy[r / 2]? = d.wy[r / 2]? := by
      show (d.wy.set (q / 2) (-1))[r / 2]? = _
      rw [List.getElem?_set_ne (fun e => hr e.symm)]
    rw [ew]
    rcases h j r hj hl with ⟨h1, h2⟩ | ⟨h1, k', c', a, b, e, f⟩
    · exact .inl ⟨List.mem_append_left _ h1, h2⟩
    · refine .inr ⟨fun hm => ?_, k', c', a, b, e, fun y hy hne => ?_⟩
      · have hm : j ∈ d.ma ++ [d.tr.length] := hm
        rcases List.mem_append.1 hm with hm | hm
        · exact h1 hm
        · have := List.mem_singleton.1 hm; omega
      · obtain ⟨i, hi, hi2⟩ := f y hy hne
        exact ⟨i, hi, by show (d.tr ++ [q])[i]? = _; rw [List.getElem?_append_left (by omega)]; exact hi2⟩
  · have := (List.getElem?_eq_some_iff.1 hj).1
    simp at this
    obtain rfl : j = d.tr.length := by omega
    simp at hj
    subst hj
    exact .inl ⟨by show d.tr.length ∈ d.ma ++ [d.tr.length]; simp, by show (d.wy.set (q / 2) (-1))[q / 2]? = _; exact List.getElem?_set_self (by rw [hw]; omega)⟩
theorem Sem.decided {Mo : (Nat → Bool) → Prop} (h : Sem Mo d) : Sem Mo (d.decided q) := fun m hm => by
  obtain ⟨h1, h2⟩ := h m hm
  refine ⟨h1, fun j r hj hl => ?_⟩
  have hj : (d.tr ++ [q])[j]? = some r := hj
  have hl : lev (d.ma ++ [d.tr.length]) j = 0 := hl
  by_cases hlt : j < d.tr.length
  · rw [List.getElem?_append_left hlt] at hj
    rw [lev_snoc_lt hlt] at hl
    exact h2 j r hj hl
  · exfalso
    unfold lev at hl
    rw [List.filter_append, List.length_append] at hl
    have : [d.tr.length].filter (fun m => decide (m ≤ j)) = [d.tr.length] := by rw [List.filter_eq_self]; intro a ha; have := List.mem_singleton.1 ha; subst this; simp; omega
    rw [this] at hl; simp at hl
/-! ### Taking back -/
theorem wv_unset {wo : List Int} (hw : wo.length = 2 * n) : ∀ (ls : List Nat), (∀ l ∈ ls, l < 2 * n) → ∀ q, wv (unset ls wo) q = if q / 2 ∈ ls.map (· / 2) then 0 else wv wo q
  | [], _, q => by simp [unset]
  | l :: ls, hl, q => by
    have ih := wv_unset hw ls (fun x hx => hl x (List.mem_cons_of_mem _ hx)) q
    have hln := hl l (List.mem_cons_self ..)
    have ho := oth_lt hln
    show wv (((unset ls wo).set l 0).set (oth l) 0) q = _
    have hlen : (unset ls wo).length = 2 * n := by rw [unset_len]; exact hw
    unfold wv at ih ⊢
    rw [getD_set, getD_set, List.length_set, hlen, ih, List.map_cons]
    simp only [List.mem_cons]
    by_cases e : q / 2 = l / 2
    · refine Eq.trans ?_ (if_pos (.inl e)).symm
      rcases half_eq (q := l) (r := q) e.symm with e1 | e1
      · by_cases e2 : oth l = q ∧ oth l < 2 * n
        · rw [if_pos e2]
        · rw [if_neg e2, if_pos ⟨e1.symm, hln⟩]
      · rw [if_pos ⟨e1.symm, ho⟩]
    · have n1 : ¬ (oth l = q ∧ oth l < 2 * n) := fun h => e (by rw [← h.1, oth_half])
      have n2 : ¬ (l = q ∧ l < 2 * n) := fun h => e (by rw [h.1])
      rw [if_neg n1, if_neg n2]
      by_cases e3 : q / 2 ∈ ls.map (· / 2)
      · exact (if_pos e3).trans (if_pos (.inr e3)).symm
      · exact (if_neg e3).trans (if_neg (fun h => h.elim e e3)).symm
/-- What is left once the decisions from the m-th on are taken back. -/
def Sd.back (d : Sd) (m fr : Nat) (lk' hp' : List Nat) (pl' : List Int) : Sd := { d with wo := unset (d.tr.drop fr) d.wo, lk := lk', hp := hp', pl := pl', tr := d.tr.take fr, ma := d.ma.take m, nx := fr }
theorem Tl.marks (h : Tl n K0 d) {m fr : Nat} (hm : d.ma[m]? = some fr) : (∀ x ∈ d.ma.take m, x < fr) ∧ (∀ x ∈ d.ma.drop m, fr ≤ x) := by
  obtain ⟨hl, he⟩ := List.getElem?_eq_some_iff.1 hm
  have hp := List.pairwise_iff_getElem.1 h.ma
  constructor
  · intro x hx
    obtain ⟨i, hi⟩ := List.getElem?_of_mem hx
    have h1 := (List.getElem?_eq_some_iff.1 hi).1
    rw [List.length_take] at h1
    rw [List.getElem?_take_of_lt (by omega)] at hi
    obtain ⟨h2, h3⟩ := List.getElem?_eq_some_iff.1 hi
    have := hp i m h2 hl (by omega)
    omega
  · intro x hx
    obtain ⟨i, hi⟩ := List.getElem?_of_mem hx
    rw [List.getElem?_drop] at hi
    obtain ⟨h2, h3⟩ := List.getElem?_eq_some_iff.1 hi
    by_cases e : i = 0
    · subst e
      have : d.ma[m + 0] = d.ma[m] := rfl
      omega
    · have := hp m (m + i) hl h2 (by omega)
      omega
theorem Tl.lev_lt (h : Tl n K0 d) {m fr j : Nat} (hm : d.ma[m]? = some fr) (hj : j < fr) : lev (d.ma.take m) j = lev d.ma j ∧ lev d.ma j ≤ m ∧ (j ∈ d.ma ↔ j ∈ d.ma.take m) := by
  obtain ⟨h1, h2⟩ := h.marks hm
  have e : d.ma = d.ma.take m ++ d.ma.drop m := (List.take_append_drop m d.ma).symm
  have e2 : lev d.ma j = lev (d.ma.take m) j := by
    conv => lhs; rw [e]
    unfold lev
    rw [List.filter_append, List.length_append]
    have : (d.ma.drop m).filter (fun x => decide (x ≤ j)) = [] := by
      rw [List.filter_eq_nil_iff]; intro a ha; have := h2 a ha; simp; omega
    rw [this]; rfl
  refine ⟨e2.symm, ?_, ?_⟩
  · rw [e2]
    have := lev_le (d.ma.take m) j
    rw [List.length_take] at this; omega
  · constructor
    · intro hm2
      rw [e] at hm2
      rcases List.mem_append.1 hm2 with hm2 | hm2
      · exact hm2
      · have := h2 j hm2; omega
    · exact fun hm2 => List.mem_of_mem_take hm2
theorem Tl.lev_ge (h : Tl n K0 d) {m fr j : Nat} (hm : d.ma[m]? = some fr) (hj : fr ≤ j) : m < lev d.ma j := by
  obtain ⟨h1, h2⟩ := h.marks hm
  obtain ⟨hl, he⟩ := List.getElem?_eq_some_iff.1 hm
  have e : d.ma = d.ma.take (m + 1) ++ d.ma.drop (m + 1) := (List.take_append_drop _ d.ma).symm
  unfold lev
  rw [e, List.filter_append, List.length_append]
  have : (d.ma.take (m + 1)).filter (fun x => decide (x ≤ j)) = d.ma.take (m + 1) := by
    rw [List.filter_eq_self]; intro a ha
    rw [List.take_succ_eq_append_getElem hl] at ha
    rcases List.mem_append.1 ha with ha | ha
    · have := h1 a ha; simp; omega
    · have := List.mem_singleton.1 ha; subst this; simp; omega
  rw [this, List.length_take]; omega
theorem take_at {tr : List Nat} {fr j r : Nat} (h : (tr.take fr)[j]? = some r) : j < fr ∧ tr[j]? = some r := by
  have h1 := (List.getElem?_eq_some_iff.1 h).1
  rw [List.length_take] at h1
  rw [List.getElem?_take_of_lt (by omega)] at h
  exact ⟨by omega, h⟩
theorem Tl.apart (h : Tl n K0 d) {fr x y : Nat} (hx : x ∈ d.tr.take fr) (hy : y ∈ d.tr.drop fr) : x / 2 ≠ y / 2 := by
  have e : d.tr = d.tr.take fr ++ d.tr.drop fr := (List.take_append_drop fr d.tr).symm
  have := h.nd
  rw [e, List.map_append, List.nodup_append] at this
  exact this.2.2 _ (List.mem_map.2 ⟨x, hx, rfl⟩) _ (List.mem_map.2 ⟨y, hy, rfl⟩)
theorem Tl.wv_back (h : Tl n K0 d) {fr : Nat} (q : Nat) : wv (unset (d.tr.drop fr) d.wo) q = if q / 2 ∈ (d.tr.drop fr).map (· / 2) then 0 else wv d.wo q :=
  wv_unset h.w.len _ (fun l hl => h.tl l (List.mem_of_mem_drop hl)) q
theorem Tl.back (h : Tl n K0 d) {m fr : Nat} (hm : d.ma[m]? = some fr) (lk' hp' : List Nat) (pl' : List Int) : Tl n K0 (d.back m fr lk' hp' pl') := by
  obtain ⟨hl, he⟩ := List.getElem?_eq_some_iff.1 hm
  have hfr := h.mb fr (List.mem_of_getElem? hm)
  obtain ⟨h1, h2⟩ := h.marks hm
  have hlen : (d.tr.take fr).length = fr := by rw [List.length_take]; omega
  refine ⟨⟨by show (unset (d.tr.drop fr) d.wo).length = _; rw [unset_len]; exact h.w.len, fun q hq => ?_, fun q => ?_⟩, fun q hq => h.tl q (List.mem_of_mem_take hq), ?_, fun q hq => ?_, fun q hq => h.k0 q (List.mem_of_mem_take hq), h.ma.sublist (List.take_sublist _ _), fun x hx => ?_, fun j r hj => ?_, ?_, fun x hx => ?_⟩
  · show wv (unset (d.tr.drop fr) d.wo) (oth q) = - wv (unset (d.tr.drop fr) d.wo) q
    rw [h.wv_back, h.wv_back, oth_half]
    split
    · rfl
    · exact h.w.opp q hq
  · have e := h.wv_back (fr := fr) q
    show wv (unset (d.tr.drop fr) d.wo) q = -1 ∨ wv (unset (d.tr.drop fr) d.wo) q = 0 ∨ wv (unset (d.tr.drop fr) d.wo) q = 1
    by_cases hc : q / 2 ∈ (d.tr.drop fr).map (· / 2)
    · rw [if_pos hc] at e; exact .inr (.inl e)
    · rw [if_neg hc] at e; rw [e]; exact h.w.rng q
  · exact h.nd.sublist ((List.take_sublist _ _).map _)
  · show wv (unset (d.tr.drop fr) d.wo) q = 1 ↔ q ∈ d.tr.take fr ∨ K0 q
    rw [h.wv_back]
    by_cases e : q / 2 ∈ (d.tr.drop fr).map (· / 2)
    · rw [if_pos e]
      obtain ⟨r, hr, er⟩ := List.mem_map.1 e
      refine ⟨fun e => (by cases e), ?_⟩
      rintro (hm2 | hm2)
      · exact absurd er.symm (h.apart hm2 hr)
      · have hk := h.k0 r (List.mem_of_mem_drop hr)
        rcases half_eq (q := r) (r := q) er with rfl | rfl
        · exact absurd hm2 hk.1
        · exact absurd hm2 hk.2
    · rw [if_neg e, h.one q hq]
      constructor
      · rintro (hm2 | hm2)
        · rw [(List.take_append_drop fr d.tr).symm] at hm2
          rcases List.mem_append.1 hm2 with hm2 | hm2
          · exact .inl hm2
          · exact absurd (List.mem_map.2 ⟨q, hm2, rfl⟩) e
        · exact .inr hm2
      · rintro (hm2 | hm2)
        · exact .inl (List.mem_of_mem_take hm2)
        · exact .inr hm2
  · show x < (d.tr.take fr).length
    rw [hlen]; exact h1 x hx
  · obtain ⟨hj1, hj2⟩ := take_at (show (d.tr.take fr)[j]? = some r from hj)
    show d.dp[r / 2]? = some (lev (d.ma.take m) j)
    rw [(h.lev_lt hm hj1).1]; exact h.dp j r hj2
  · show fr ≤ (d.tr.take fr).length
    omega
  · exact Nat.le_of_lt (h1 x hx)
theorem Wy.back (h : Wy d) (t : Tl n K0 d) {m fr : Nat} (hm : d.ma[m]? = some fr) (lk' hp' : List Nat) (pl' : List Int) : Wy (d.back m fr lk' hp' pl') := by
  intro j r hj hl
  obtain ⟨hj1, hj2⟩ := take_at (show (d.tr.take fr)[j]? = some r from hj)
  obtain ⟨e1, _, e3⟩ := t.lev_lt hm hj1
  have hl : 1 ≤ lev (d.ma.take m) j := hl
  rw [e1] at hl
  rcases h j r hj2 hl with ⟨a, b⟩ | ⟨a, k, c, b, e, f, g⟩
  · exact .inl ⟨e3.1 a, b⟩
  · refine .inr ⟨fun hm2 => a (e3.2 hm2), k, c, b, e, f, fun y hy hne => ?_⟩
    obtain ⟨i, hi, hi2⟩ := g y hy hne
    exact ⟨i, hi, by show (d.tr.take fr)[i]? = _; rw [List.getElem?_take_of_lt (by omega)]; exact hi2⟩
theorem Sem.back {Mo : (Nat → Bool) → Prop} (h : Sem Mo d) (t : Tl n K0 d) {m fr : Nat} (hm : d.ma[m]? = some fr) (lk' hp' : List Nat) (pl' : List Int) : Sem Mo (d.back m fr lk' hp' pl') := fun mo hmo => by
  obtain ⟨h1, h2⟩ := h mo hmo
  refine ⟨h1, fun j r hj hl => ?_⟩
  obtain ⟨hj1, hj2⟩ := take_at (show (d.tr.take fr)[j]? = some r from hj)
  have hl : lev (d.ma.take m) j = 0 := hl
  rw [(t.lev_lt hm hj1).1] at hl
  exact h2 j r hj2 hl
theorem Pr.back {E : Nat → Nat → Prop} (h : Pr d E) (t : Tl n K0 d) (cs : Cs n K0 d.cls) {m fr : Nat} (hm : d.ma[m]? = some fr) (lk' hp' : List Nat) (pl' : List Int) : Pr (d.back m fr lk' hp' pl') E := by
  intro k c i x hk hi hx hj
  obtain ⟨j, hj1, hj2⟩ := hj
  have hj1 : j < fr := hj1
  have hj2 : d.tr[j]? = some (oth x) := (take_at (show (d.tr.take fr)[j]? = some (oth x) from hj2)).2
  have hnx := t.mx fr (List.mem_of_getElem? hm)
  rcases h k c i x hk hi hx ⟨j, by omega, hj2⟩ with h1 | ⟨y, hy, h1, h2⟩
  · exact .inl h1
  · refine .inr ⟨y, hy, ?_, h2⟩
    have hdx : dpt d.dp x = lev d.ma j := dpt_of (by rw [← oth_half x]; exact t.dp j _ hj2)
    have hle := (t.lev_lt hm hj1).2.1
    obtain ⟨hy2, hy3, _⟩ := cs.lt k c hk y hy
    rcases (t.one y hy2).1 h1 with hty | hty
    · obtain ⟨j', hj'⟩ := List.getElem?_of_mem hty
      have hdy : dpt d.dp y = lev d.ma j' := dpt_of (t.dp j' _ hj')
      have hlt : j' < fr := by
        by_cases e : j' < fr
        · exact e
        · have := t.lev_ge hm (j := j') (by omega); omega
      have hmem : y ∈ d.tr.take fr := List.mem_of_getElem? (i := j') (by rw [List.getElem?_take_of_lt hlt]; exact hj')
      exact ((t.back hm lk' hp' pl').one y hy2).2 (.inl hmem)
    · exact absurd hty hy3
end
end Go.Proofs.YtpmdnbdmocdngaaGreat

namespace Go.Proofs.YtpmdnbdmocdngaaGreat
open Go.ChangeShapes Go.WideShapes Go.ChangeAt Go.RowKit
set_option linter.unusedVariables false
set_option linter.unusedSimpArgs false

abbrev pp (p : Nat) : Value := .pointer (some ⟨p, 17, none⟩)
abbrev np (p : Nat) : Value := .pointer (some ⟨p, 13, none⟩)
/-- Where the row of units goes on. -/
def PNext (pt pu pt' pu' : Int) : Prop := (bits .and .i64 pt (-pt) = pu ∧ pt' = pt + 1 ∧ pu' = 1) ∨ (bits .and .i64 pt (-pt) ≠ pu ∧ pt' = pt ∧ pu' = pu * 2)
def ClPost (B : Nat) (τ : Nat → Nat) (w : World) (p n : Nat) (d : Sd) (w' : World) : Prop := ∃ le', (le' = d.le ∨ le' = d.le + 1) ∧ Sr B τ w' p n { d with pc := d.pc + 1, le := le' } ∧ Stp τ τ w w'
def DuPost (B : Nat) (τ : Nat → Nat) (w : World) (p n : Nat) (d : Sd) (w' : World) : Prop := ∃ pt' pu', PNext d.pt d.pu pt' pu' ∧ Sr B τ w' p n { d with pc := 0, pt := pt', pu := pu' } ∧ Stp τ τ w w'
section
variable {B : Nat} {τ : Nat → Nat} {w : World} {p n : Nat} {d : Sd}
theorem clash_any (h : Sr B τ w p n d) (s : Int) (h1 : 0 ≤ d.pc) (h2 : d.pc < 4611686018427387904) (h3 : 0 ≤ d.le) (h4 : d.le < 4611686018427387904) :
    Calls Tryz.prog 97 #[pp p, .int .i64 s] w fun e w' => e = .returned (.tuple #[]) ∧ ClPost B τ w p n d w' := by
  have f17 := h.get_pc
  have zp := h.plt
  have rp := h.pfree
  have s1 := h.set_pc (d.pc + 1)
  have f20 := s1.1.get_le
  have s2 := s1.1.set_le (d.le + 1)
  have HA := Lib.hid s1
  have HB := Lib.hid (And.intro s2.1 (s1.2.trans s2.2))
  have w1 : wrap64 (d.pc + 1) = d.pc + 1 := by unfold wrap64; omega
  have w2 : wrap64 (d.le + 1) = d.le + 1 := by unfold wrap64; omega
  have rp2 := s1.1.pfree
  have zp2 := s1.1.plt
  clear h s1 s2
  by_cases hs : 2 < s
  · go_enter Tryz.func97, Tryz.ntmps97
    go_wp2_with fail
    go_end0
    exact ⟨rfl, _, .inr rfl, HB.out.1, HB.out.2⟩
  · have hs' : s ≤ 2 := by omega
    go_enter Tryz.func97, Tryz.ntmps97
    go_wp2_with fail
    go_end0
    exact ⟨rfl, _, .inl rfl, HA.out.1, HA.out.2⟩
theorem due_no (h : Sr B τ w p n d) (hu : 0 ≤ d.pu) (hu2 : d.pu < 17592186044416) (hc : d.pc < 128 * d.pu) :
    Calls Tryz.prog 100 #[pp p] w fun e w' => e = .returned (.bool false) ∧ Below w.heap.size w w' := by
  have f17 := h.get_pc
  have f19 := h.get_pu
  have zp := h.plt
  have hw : IntKind.i64.wrap (128 * d.pu) = 128 * d.pu := IntWalk.i64_in _ (by omega)
  clear h
  go_enter Tryz.func100, Tryz.ntmps100
  go_wp2_with fail
  go_quiet (fail)
  go_wp2_with fail
  go_ret
  exact ⟨rfl, Below.draws (Below.refl _ _) _⟩
theorem due_yes (h : Sr B τ w p n d) (hu : 0 ≤ d.pu) (hu2 : d.pu < 17592186044416) (hc : 128 * d.pu ≤ d.pc) (ht : 0 ≤ d.pt) (ht2 : d.pt < 4611686018427387904) :
    Calls Tryz.prog 100 #[pp p] w fun e w' => e = .returned (.bool true) ∧ DuPost B τ w p n d w' := by
  have f17 := h.get_pc
  have f18 := h.get_pt
  have f19 := h.get_pu
  have zp := h.plt
  have rp := h.pfree
  have hw : IntKind.i64.wrap (128 * d.pu) = 128 * d.pu := IntWalk.i64_in _ (by omega)
  have hn : IntKind.i64.wrap (-d.pt) = -d.pt := IntWalk.i64_in _ (by omega)
  have hm : IntKind.i64.wrap (d.pu * 2) = d.pu * 2 := IntWalk.i64_in _ (by omega)
  have hp1 : IntKind.i64.wrap (d.pt + 1) = d.pt + 1 := IntWalk.i64_in _ (by omega)
  have s1 := h.set_pc 0
  have s2 := s1.1.set_pu (d.pu * 2)
  have s3 := s1.1.set_pt (d.pt + 1)
  have s4 := s3.1.set_pu 1
  have HA := Lib.hid (And.intro s2.1 (s1.2.trans s2.2))
  have HB := Lib.hid (And.intro s4.1 ((s1.2.trans s3.2).trans s4.2))
  clear h s1 s2 s3 s4
  by_cases hb : bits .and .i64 d.pt (-d.pt) = d.pu
  · have HPN : Hid (PNext d.pt d.pu (d.pt + 1) 1) := .inl ⟨hb, rfl, rfl⟩
    have hb2 : (bits .and .i64 d.pt (-d.pt) == d.pu) = true := by rw [hb]; simp
    go_enter Tryz.func100, Tryz.ntmps100
    go_wp2_with fail
    go_quiet (fail)
    go_wp2_with fail
    go_quiet (fail)
    go_wp2_with fail
    go_ret
    exact ⟨rfl, _, _, HPN.out, HB.out.1.alike rfl rfl rfl rfl, HB.out.2.alike rfl rfl rfl rfl⟩
  · have HPN : Hid (PNext d.pt d.pu d.pt (d.pu * 2)) := .inr ⟨hb, rfl, rfl⟩
    have hb2 : (bits .and .i64 d.pt (-d.pt) == d.pu) = false := beq_eq_false_iff_ne.2 hb
    go_enter Tryz.func100, Tryz.ntmps100
    go_wp2_with fail
    go_quiet (fail)
    go_wp2_with fail
    go_quiet (fail)
    go_wp2_with fail
    go_ret
    exact ⟨rfl, _, _, HPN.out, HA.out.1.alike rfl rfl rfl rfl, HA.out.2.alike rfl rfl rfl rfl⟩
def FgPost (B : Nat) (τ : Nat → Nat) (w : World) (p n : Nat) (d : Sd) (w' : World) : Prop := ∃ se' : List Bool, Sr B τ w' p n { d with se := se', nu := [] } ∧ Stp τ τ w w' ∧ se'.length = n ∧ ∀ v, se'[v]? = some true → d.se[v]? = some true ∧ v ∉ d.nu
set_option maxHeartbeats 1600000 in
theorem nforget_any (h : Sr B τ w p n d) (L : Len n d) (hnu : ∀ v ∈ d.nu, v < n) :
    Calls Tryz.prog 96 #[np p] w fun e w' => e = .returned (.tuple #[]) ∧ FgPost B τ w p n d w' := by
  obtain ⟨A, cap, f14, hA⟩ := h.head_nu
  have HNU := Lib.hid hnu
  have hnb : d.nu.length ≤ 65536 := by have := L.nb; have := L.nu; omega
  have H0 : Hid (∃ se' : List Bool, Sr B τ w p n { d with se := se' } ∧ Stp τ τ w w ∧ se'.length = n ∧ ∀ v, se'[v]? = some true → d.se[v]? = some true ∧ v ∉ d.nu.take 0) := ⟨d.se, h, Stp.refl _ _, L.se, fun v hv => ⟨hv, by simp⟩⟩
  have zp := h.plt
  have H9 := Lib.hid (fun (se' : List Bool) (wr : World) (hs : Sr B τ wr p n { d with se := se' }) => show wr.cell? ⟨p, 14, none⟩ = some (.slice A d.nu.length cap) → Sr B τ (wr.setCell ⟨p, 14, none⟩ (.slice A 0 cap)) p n { d with se := se', nu := [] } ∧ Stp τ τ wr (wr.setCell ⟨p, 14, none⟩ (.slice A 0 cap)) from fun hc => by
    have hx : A = none → (0 : Nat) = 0 ∧ cap = 0 := fun e => ⟨rfl, by
      obtain ⟨pcs, h⟩ := h
      obtain ⟨v, hv, hr⟩ := h.row 14 rfl
      rw [h.blk.cell, hv] at f14
      injection f14 with f14
      subst f14
      rcases hr.at with ⟨h0, _⟩ | ⟨g, cap', cur, h0, _⟩
      · injection h0
      · injection h0 with h0; rw [e] at h0; cases h0⟩
    have := hs.cut_nu (m := 0) hc (Nat.zero_le _) hx
    simpa using this)
  clear h L hnu hA
  go_enter Tryz.func96, Tryz.ntmps96
  go_wp2_with fail
  go_loopw [9] (fun iv wr => ∃ k : Nat, k ≤ d.nu.length ∧ iv = .int .i64 k ∧ wr.cell? ⟨p, 14, none⟩ = some (.slice A d.nu.length cap) ∧ ∃ se' : List Bool, Sr B τ wr p n { d with se := se' } ∧ Stp τ τ w wr ∧ se'.length = n ∧ ∀ v, se'[v]? = some true → d.se[v]? = some true ∧ v ∉ d.nu.take k) (fun iv _ => d.nu.length - (intOf iv).toNat)
  case atStart => exact ⟨0, by omega, rfl, f14, H0.out⟩
  case round =>
    obtain ⟨k, hk, rfl, hc14, se', hs, ht, hl, hm⟩ := hrel
    have R := Lib.hid hs
    have T := Lib.hid ht
    have HL := Lib.hid hl
    have HM := Lib.hid hm
    clear hs ht hl hm H0
    have zp := R.out.plt
    by_cases hlt : k < d.nu.length
    · obtain ⟨v, hv⟩ : ∃ v, d.nu[k]? = some v := ⟨_, List.getElem?_eq_getElem hlt⟩
      have hvn := HNU.out v (List.mem_of_getElem? hv)
      obtain ⟨g, c, a⟩ := R.out.at_nu (by show 0 < d.nu.length; omega)
      have e1 := a.len_nu.1
      rw [show ({ d with se := se' } : Sd).nu = d.nu from rfl, hc14] at e1
      injection e1 with e1; injection e1 with e1 _ e2
      subst e1; subst e2
      have xn : wr.cell? ⟨g, k, none⟩ = some (.int .i32 (v : Int)) := a.nu hv
      have zn := a.lt
      have ln : d.nu.length ≤ cap := a.len_nu.2
      have kn := a.cap
      obtain ⟨g2, c2, a2⟩ := R.out.at_se (by show 0 < se'.length; rw [HL.out]; omega)
      obtain ⟨y, hy⟩ : ∃ y, se'[v]? = some y := ⟨_, List.getElem?_eq_getElem (by rw [HL.out]; exact hvn)⟩
      have f13 := a2.len_se.1
      have l13 := a2.len_se.2
      have k13 := a2.cap
      have x13 := a2.se hy
      have r13 := a2.free
      have z13 := a2.lt
      have n13 := a2.ne
      have e13 : v < se'.length := by rw [HL.out]; exact hvn
      have hP := R.out.put_se a2 (i := v) (by show v < se'.length; exact e13) false
      have HN : Hid ((wr.setCell ⟨g2, v, none⟩ (.bool false)).cell? ⟨p, 14, none⟩ = some (.slice (some ⟨g, 0, none⟩) d.nu.length cap) ∧ ∃ se2 : List Bool, Sr B τ (wr.setCell ⟨g2, v, none⟩ (.bool false)) p n { d with se := se2 } ∧ Stp τ τ w (wr.setCell ⟨g2, v, none⟩ (.bool false)) ∧ se2.length = n ∧ ∀ u, se2[u]? = some true → d.se[u]? = some true ∧ u ∉ d.nu.take (k + 1)) :=
        ⟨(World.cell?_of_block (set_other (p := ⟨g2, v, none⟩) n13.symm)).trans hc14, se'.set v false, hP.1, T.out.trans hP.2, by rw [List.length_set]; exact HL.out, fun u hu => by
          by_cases e : v = u
          · subst e; rw [List.getElem?_set_self e13] at hu; cases hu
          · rw [List.getElem?_set_ne e] at hu
            obtain ⟨q1, q2⟩ := HM.out u hu
            refine ⟨q1, fun hm => ?_⟩
            obtain ⟨_, e3⟩ := List.getElem?_eq_some_iff.1 hv
            rw [List.take_succ_eq_append_getElem hlt, e3] at hm
            rcases List.mem_append.1 hm with hm | hm
            · exact q2 hm
            · exact e (List.mem_singleton.1 hm).symm⟩
      clear a a2 hy hP hv
      go_wp2_with fail
      go_roundw
      case rel => exact ⟨k + 1, by omega, by go_num, HN.out.1, HN.out.2⟩
      case measure => simp [intOf]; omega
    · obtain rfl : k = d.nu.length := by omega
      have rp := R.out.pfree
      have hP := H9.out se' wr R.out hc14
      have HE : Hid (FgPost B τ w p n d (wr.setCell ⟨p, 14, none⟩ (.slice A 0 cap))) := ⟨se', hP.1, T.out.trans hP.2, HL.out, fun v hv => by have := HM.out v hv; rwa [List.take_length] at this⟩
      clear hP
      go_wp2_with fail
      go_end0
      exact ⟨rfl, HE.out⟩
end
end Go.Proofs.YtpmdnbdmocdngaaGreat

namespace Go.Proofs.YtpmdnbdmocdngaaGreat
open Go.ChangeShapes Go.WideShapes Go.ChangeAt Go.RowKit
set_option linter.unusedVariables false
set_option linter.unusedSimpArgs false

/-- A list of literals that lies outside of the search. -/
structure La (τ : Nat → Nat) (W : World) (A : Option Addr) (ls : List Nat) : Prop where
  get : ∀ (i q : Nat), ls[i]? = some q → ∃ a, A = some a ∧ W.cell? (a.add i) = some (.int .i32 (q : Int)) ∧ τ a.block = 0
theorem La.step {τ τ' : Nat → Nat} {W W' : World} {A : Option Addr} {ls : List Nat} (h : La τ W A ls) (k : Stp τ τ' W W') : La τ' W' A ls := ⟨fun i q hq => by
  obtain ⟨a, ha, h1, h2⟩ := h.get i q hq
  have hl := lt_of_cell h1
  rw [add_block] at hl
  exact ⟨a, ha, (World.cell?_of_block (by rw [add_block]; exact k.kept.block _ hl (fun h => h h2))).trans h1, k.tag _ hl h2⟩⟩
def SpPost (B : Nat) (τ : Nat → Nat) (w : World) (p n : Nat) (d : Sd) (m : Nat) (e : Ending) (w' : World) : Prop :=
  ∃ (co' : List Int) (k : Nat) (c : Int), e = .returned (.int .i64 (k : Int)) ∧ k ≤ m ∧ Sr B τ w' p n { d with co := co', ch := c } ∧ Stp τ τ w w' ∧ co'.length = n + 1
section
variable {B : Nat} {τ : Nat → Nat} {w : World} {p n : Nat} {d : Sd}
set_option maxHeartbeats 1600000 in
theorem spread_any (h : Sr B τ w p n d) (L : Len n d) {A : Option Addr} {ls : List Nat} {cap : Nat} (hA : La τ w A ls) (hcap : ls.length ≤ cap) (hcap2 : cap ≤ 9223372036854775807) (hls : ∀ l ∈ ls, l < 2 * n) (hlb : ls.length ≤ 65536) (hdp : ∀ v ∈ d.dp, v ≤ n) :
    Calls Tryz.prog 94 #[ptr p, .slice A ls.length cap] w (SpPost B τ w p n d ls.length) := by
  have HA := Lib.hid hA
  have HLS := Lib.hid hls
  have HDP := Lib.hid hdp
  have HL := Lib.hid L
  have hn := L.nb
  have f16 := h.get_ch
  have zp := h.plt
  have rp := h.pfree
  have H0 := Lib.hid (fun c : Int => h.set_ch c)
  have HCO := Lib.hid L.co
  clear h L hA hls hdp
  go_enter Tryz.func94, Tryz.ntmps94
  go_wp2_with fail
  generalize wrap64 (d.ch + 1) = c at *
  have R0 := Lib.hid (H0.out c)
  clear H0 f16 rp zp
  generalize (w.setCell ⟨p, 16, none⟩ (.int .i64 c)) = w0 at *
  go_loopw [5, 20] (fun mv iv wr => ∃ (k m : Nat) (co' : List Int), k ≤ ls.length ∧ m ≤ k ∧ iv = .int .i64 k ∧ mv = .int .i64 m ∧ Sr B τ wr p n { d with co := co', ch := c } ∧ Stp τ τ w wr ∧ co'.length = n + 1) (fun _ iv _ => ls.length - (intOf iv).toNat)
  case atStart => exact ⟨0, 0, d.co, by omega, by omega, rfl, rfl, R0.out.1, R0.out.2, HCO.out⟩
  case round =>
    obtain ⟨k, m, co', hk, hmk, rfl, rfl, hs, ht, hl⟩ := hrel
    have R := Lib.hid hs
    have T := Lib.hid ht
    have HC := Lib.hid hl
    clear hs ht hl R0
    by_cases hlt : k < ls.length
    · obtain ⟨l, hl⟩ : ∃ l, ls[k]? = some l := ⟨_, List.getElem?_eq_getElem hlt⟩
      have hl2 := HLS.out l (List.mem_of_getElem? hl)
      obtain ⟨a0, rfl, hca, _⟩ := (HA.out.step T.out).get k l hl
      have za : a0.block < wr.heap.size := by have := lt_of_cell hca; rwa [add_block] at this
      have CN := Lib.hid (fun W => lnum_any l W (by omega))
      obtain ⟨g, c6, a⟩ := R.out.at_dp (by show 0 < d.dp.length; rw [HL.out.dp]; omega)
      obtain ⟨y, hy⟩ : ∃ y, d.dp[l / 2]? = some y := ⟨_, List.getElem?_eq_getElem (by rw [HL.out.dp]; omega)⟩
      have hyn := HDP.out y (List.mem_of_getElem? hy)
      have f6 := a.len_dp.1
      have l6 := a.len_dp.2
      have k6 := a.cap
      have x6 := a.dp hy
      have z6 := a.lt
      have zp := R.out.plt
      have e6 : l / 2 < d.dp.length := by rw [HL.out.dp]; omega
      obtain ⟨g2, c15, a2⟩ := R.out.at_co (by show 0 < co'.length; rw [HC.out]; omega)
      obtain ⟨x, hx⟩ : ∃ x, co'[y]? = some x := ⟨_, List.getElem?_eq_getElem (by rw [HC.out]; omega)⟩
      have f15 := a2.len_co.1
      have l15 := a2.len_co.2
      have k15 := a2.cap
      have x15 := a2.co hx
      have r15 := a2.free
      have z15 := a2.lt
      have n15 := a2.ne
      have e15 : y < co'.length := by rw [HC.out]; omega
      have f16 : wr.cell? ⟨p, 16, none⟩ = some (.int .i64 c) := R.out.get_ch
      have HP := Lib.hid (show Sr B τ (wr.setCell ⟨g2, y, none⟩ (.int .i64 c)) p n { d with co := co'.set y c, ch := c } ∧ Stp τ τ w (wr.setCell ⟨g2, y, none⟩ (.int .i64 c)) ∧ (co'.set y c).length = n + 1 from ⟨(R.out.put_co a2 (i := y) (by show y < co'.length; exact e15) c).1, T.out.trans (R.out.put_co a2 (i := y) (by show y < co'.length; exact e15) c).2, by rw [List.length_set]; exact HC.out⟩)
      have HR := Lib.hid (And.intro R.out (And.intro T.out HC.out))
      clear a a2 hl hy hx R T
      obtain ⟨v, hv⟩ : ∃ v, l / 2 = v := ⟨_, rfl⟩
      rw [hv] at CN x6 e6
      clear hv
      have b1 : (0 : Int) ≤ (v : Int) := by omega
      have b2 : (v : Int) < (d.dp.length : Int) := by omega
      have b3 : (0 : Int) ≤ (y : Int) := by omega
      have b4 : (y : Int) < (co'.length : Int) := by omega
      go_wp2_with fail
      go_quiet ((go_at_call 90; with_reducible exact calm_one CN.out))
      go_wp2_with fail
      go_quiet (fail)
      by_cases hxc : x = c
      · have hq : (x == c) = true := by rw [hxc]; simp
        have hq2 : (x != c) = false := by unfold bne; rw [hq]; rfl
        have HRW := Lib.hid (show ∀ W : World, W.heap = wr.heap → W.os = wr.os → W.tape = wr.tape → W.output = wr.output → Sr B τ W p n { d with co := co', ch := c } ∧ Stp τ τ w W ∧ co'.length = n + 1 from fun W h0 h1 h2 h3 => ⟨HR.out.1.alike h0 h1 h2 h3, HR.out.2.1.alike h0 h1 h2 h3, HR.out.2.2⟩)
        clear hxc HP
        go_wp2_with fail
        go_roundw
        case rel => exact ⟨k + 1, m, co', by omega, by omega, by go_num, rfl, HRW.out _ rfl rfl rfl rfl⟩
        case measure => simp [intOf]; omega
      · have hq : (x == c) = false := beq_eq_false_iff_ne.2 hxc
        have hq2 : (x != c) = true := by unfold bne; rw [hq]; rfl
        have HRW := Lib.hid (show ∀ W : World, W.heap = (wr.setCell ⟨g2, y, none⟩ (.int .i64 c)).heap → W.os = wr.os → W.tape = wr.tape → W.output = wr.output → Sr B τ W p n { d with co := co'.set y c, ch := c } ∧ Stp τ τ w W ∧ (co'.set y c).length = n + 1 from fun W h0 h1 h2 h3 => ⟨HP.out.1.alike h0 h1 h2 h3, HP.out.2.1.alike h0 h1 h2 h3, HP.out.2.2⟩)
        clear hxc HR
        go_wp2_with fail
        go_region
        go_wp2_with fail
        go_roundw
        case rel => exact ⟨k + 1, m + 1, _, by omega, by omega, by go_num, by go_num, HRW.out _ rfl rfl rfl rfl⟩
        case measure => simp [intOf]; omega
    · obtain rfl : k = ls.length := by omega
      have HE : Hid (SpPost B τ w p n d ls.length (.returned (.int .i64 (m : Int))) wr) := ⟨co', m, c, rfl, hmk, R.out, T.out, HC.out⟩
      go_wp2_with fail
      go_ret
      exact HE.out
end
end Go.Proofs.YtpmdnbdmocdngaaGreat
