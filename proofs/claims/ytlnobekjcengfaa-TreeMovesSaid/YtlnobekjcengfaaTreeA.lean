/-
  Files moved round: plain data.
-/
import Derived.Test.YtlnobekjcengfaaTreeQ
namespace Go.Proofs.Ytlnobekjcengfaa
open Go.ChangeShapes Go.WideShapes Go.ChangeAt Go.RowKit Go.Joins
set_option linter.unusedVariables false
set_option linter.unusedSimpArgs false

/-- Which number stands at a name; -1: none. -/
def nAt (l : List Itm) (p : List UInt8) : Int := match look l p with | none => -1 | some i => i.n
theorem ren_d {a b : List UInt8} {l : List Itm} {P : Itm → Prop} (hP : ∀ i ∈ l, P i) (hq : ∀ i, P i → P ⟨b, i.d, i.n⟩) : ∀ i ∈ ren a b l, P i := by
  intro i hi
  rcases mem_ren hi with ⟨j, hj, _, rfl⟩ | hi
  · exact hq j (hP j hj)
  · exact hP i hi
/-- Where each is, as the law keeps it. -/
structure MovI (s : St) (at_ : List Int) (n : Nat) : Prop where
  ok : Ok s.l
  len : s.l.length = n
  n8 : n ≤ 8
  fil : ∀ i ∈ s.l, i.d = false
  pos : ∀ i ∈ s.l, 0 ≤ i.n ∧ i.n ≤ 8
  al : at_.length = 8
  at_ : ∀ j, j < 8 → at_[j]? = some (nAt s.l (lt1 j))
section
variable {s : St} {at_ : List Int} {n x y : Nat} (h : MovI s at_ n)
include h
theorem MovI.yes {a : Int} (hx : x < 8) (ha : at_[x]? = some a) (h0 : 0 ≤ a) : ∃ i, look s.l (lt1 x) = some i ∧ i.d = false ∧ i.n = a := by
  rw [h.at_ x hx] at ha
  unfold nAt at ha
  cases hk : look s.l (lt1 x) with
  | none => rw [hk] at ha; simp at ha; omega
  | some i => rw [hk] at ha; exact ⟨i, rfl, h.fil i (look_mem hk), Option.some.inj ha⟩
theorem MovI.nil {a : Int} (hx : x < 8) (ha : at_[x]? = some a) (h0 : a < 0) : look s.l (lt1 x) = none ∧ a = -1 := by
  rw [h.at_ x hx] at ha
  unfold nAt at ha
  cases hk : look s.l (lt1 x) with
  | none => rw [hk] at ha; exact ⟨rfl, (Option.some.inj ha).symm⟩
  | some i => rw [hk] at ha; have := (h.pos i (look_mem hk)).1; have := Option.some.inj ha; simp only at this; omega
theorem MovI.bd {a : Int} (hx : x < 8) (ha : at_[x]? = some a) : -1 ≤ a ∧ a ≤ 8 := by
  rw [h.at_ x hx] at ha
  unfold nAt at ha
  cases hk : look s.l (lt1 x) with
  | none => rw [hk] at ha; have := Option.some.inj ha; simp only at this; omega
  | some i => rw [hk] at ha; have := h.pos i (look_mem hk); have := Option.some.inj ha; simp only at this; omega
theorem MovI.free {a b : Int} (hx : x < 8) (hy : y < 8) (hxy : x ≠ y) (ha : at_[x]? = some a) (h0 : 0 ≤ a) (hb : at_[y]? = some b) (h1 : b < 0) :
    moveT s (lt1 x) (lt1 y) = ((-1, 0), ⟨ren (lt1 x) (lt1 y) s.l, s.nx⟩) ∧ MovI ⟨ren (lt1 x) (lt1 y) s.l, s.nx⟩ ((at_.set y a).set x (-1)) n := by
  obtain ⟨i, hi, hd, hin⟩ := h.yes hx ha h0
  obtain ⟨hj, _⟩ := h.nil hy hb h1
  have hne : ¬ lt1 x = lt1 y := fun e => hxy (lt1_inj (by omega) (by omega) e)
  refine ⟨?_, ⟨h.ok.rename hi hd (lt1_name (by omega)).1 (look_not hj) (fun e => absurd (by rw [(lt1_name (by omega)).2]) e), (ren_len _ _ _).trans h.len, h.n8, ren_d (P := fun i => i.d = false) h.fil (fun _ e => e), ren_d (P := fun i => 0 ≤ i.n ∧ i.n ≤ 8) h.pos (fun _ e => e), by simp [h.al], fun j hjx => ?_⟩⟩
  · unfold moveT
    rw [find_some (lt1_name (by omega)).1 (lt1_abv (by omega) _) hi, hd, if_pos rfl]
    simp only [Bool.false_eq_true, if_false]
    rw [if_pos (lt1_name (by omega)).1, if_pos (lt1_abv (by omega) _), if_neg hne, hj]
  · rw [List.getElem?_set, List.getElem?_set, List.length_set, h.al]
    unfold nAt
    by_cases e1 : x = j
    · subst e1
      rw [if_pos rfl, if_pos hx, show look (ren (lt1 x) (lt1 y) s.l) (lt1 x) = none from look_ren_from hne h.ok.nd]
    · rw [if_neg e1]
      by_cases e2 : y = j
      · subst e2
        rw [if_pos rfl, if_pos hy, show look (ren (lt1 x) (lt1 y) s.l) (lt1 y) = _ from look_ren_to hi (look_not hj)]
        simp [hin]
      · rw [if_neg e2, h.at_ j hjx, show look (ren (lt1 x) (lt1 y) s.l) (lt1 j) = _ from look_ren_ne (fun e => e1 (lt1_inj (by omega) (by omega) e.symm)) (fun e => e2 (lt1_inj (by omega) (by omega) e.symm))]
        rfl
theorem MovI.upon {a b : Int} (hx : x < 8) (hy : y < 8) (hxy : x ≠ y) (ha : at_[x]? = some a) (h0 : 0 ≤ a) (hb : at_[y]? = some b) (h1 : 0 ≤ b) :
    moveT s (lt1 x) (lt1 y) = ((b, 0), ⟨ren (lt1 x) (lt1 y) (s.l.eraseP (is (lt1 y))), s.nx⟩) ∧ MovI ⟨ren (lt1 x) (lt1 y) (s.l.eraseP (is (lt1 y))), s.nx⟩ ((at_.set y a).set x (-1)) (n - 1) ∧ 1 ≤ n := by
  obtain ⟨i, hi, hd, hin⟩ := h.yes hx ha h0
  obtain ⟨k, hk, hkd, hkn⟩ := h.yes hy hb h1
  have hne : ¬ lt1 x = lt1 y := fun e => hxy (lt1_inj (by omega) (by omega) e)
  have hl := erase_len hk
  have hi' : look (s.l.eraseP (is (lt1 y))) (lt1 x) = some i := (look_erase_ne hne).trans hi
  have hj' := look_erase_self h.ok (lt1 y)
  have hln := h.len
  have hok' : Ok (s.l.eraseP (is (lt1 y))) := h.ok.erase (h.ok.none_in hk hkd)
  refine ⟨?_, ⟨hok'.rename hi' hd (lt1_name (by omega)).1 (look_not hj') (fun e => absurd (by rw [(lt1_name (by omega)).2]) e), (ren_len _ _ _).trans (by omega), by have := h.n8; omega, ren_d (P := fun i => i.d = false) (fun i hi => h.fil i (erase_mem hi)) (fun _ e => e), ren_d (P := fun i => 0 ≤ i.n ∧ i.n ≤ 8) (fun i hi => h.pos i (erase_mem hi)) (fun _ e => e), by simp [h.al], fun j hjx => ?_⟩, by omega⟩
  · unfold moveT
    rw [find_some (lt1_name (by omega)).1 (lt1_abv (by omega) _) hi, hd, if_pos rfl]
    simp only [Bool.false_eq_true, if_false]
    rw [if_pos (lt1_name (by omega)).1, if_pos (lt1_abv (by omega) _), if_neg hne, hk]
    simp only [hkd, Bool.false_eq_true, if_false, hkn]
  · rw [List.getElem?_set, List.getElem?_set, List.length_set, h.al]
    unfold nAt
    by_cases e1 : x = j
    · subst e1
      rw [if_pos rfl, if_pos hx, show look (ren (lt1 x) (lt1 y) (s.l.eraseP (is (lt1 y)))) (lt1 x) = none from look_ren_from hne hok'.nd]
    · rw [if_neg e1]
      by_cases e2 : y = j
      · subst e2
        rw [if_pos rfl, if_pos hy, show look (ren (lt1 x) (lt1 y) (s.l.eraseP (is (lt1 y)))) (lt1 y) = _ from look_ren_to hi' (look_not hj')]
        simp [hin]
      · have f1 : lt1 j ≠ lt1 x := fun e => e1 (lt1_inj (by omega) (by omega) e.symm)
        have f2 : lt1 j ≠ lt1 y := fun e => e2 (lt1_inj (by omega) (by omega) e.symm)
        rw [if_neg e2, h.at_ j hjx, show look (ren (lt1 x) (lt1 y) (s.l.eraseP (is (lt1 y)))) (lt1 j) = look s.l (lt1 j) from (look_ren_ne f1 f2).trans (look_erase_ne f2)]
        rfl
theorem MovI.self {a : Int} (hx : x < 8) (ha : at_[x]? = some a) (h0 : 0 ≤ a) : moveT s (lt1 x) (lt1 x) = ((-1, 0), s) := by
  obtain ⟨i, hi, hd, hin⟩ := h.yes hx ha h0
  unfold moveT
  rw [find_some (lt1_name (by omega)).1 (lt1_abv (by omega) _) hi, hd, if_pos rfl]
  simp only [Bool.false_eq_true, if_false]
  rw [if_pos (lt1_name (by omega)).1, if_pos (lt1_abv (by omega) _)]
  simp
theorem MovI.no {a : Int} (hx : x < 8) (ha : at_[x]? = some a) (h0 : a < 0) (p : List UInt8) : moveT s (lt1 x) p = ((-1, 65282), s) := by
  obtain ⟨hi, _⟩ := h.nil hx ha h0
  unfold moveT
  rw [find_none (lt1_name (by omega)).1 (lt1_abv (by omega) _) hi]
  rfl
end
end Go.Proofs.Ytlnobekjcengfaa
