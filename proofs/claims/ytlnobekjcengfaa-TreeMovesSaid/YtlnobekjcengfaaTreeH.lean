/-
  What stands in two directories: plain data.
-/
import Derived.Test.YtlnobekjcengfaaTreeB
namespace Go.Proofs.Ytlnobekjcengfaa
open Go.ChangeShapes Go.WideShapes Go.ChangeAt Go.RowKit Go.Joins
set_option linter.unusedVariables false
set_option linter.unusedSimpArgs false

/-- A directory of the law's, and a path in it. -/
def dn (x : Nat) : List UInt8 := [UInt8.ofNat (100 + x)]
def pt (x k : Nat) : List UInt8 := [UInt8.ofNat (100 + x), 47, UInt8.ofNat (97 + k)]
theorem dn_name {x : Nat} (h : x < 2) : nameB (dn x) = true ∧ spl (dn x) = ([], dn x) := by
  have : ∀ x : Fin 2, nameB (dn x) = true ∧ spl (dn x) = ([], dn x) := by decide +kernel
  exact this ⟨x, h⟩
theorem pt_name {x k : Nat} (h : x < 2) (hk : k < 4) : nameB (pt x k) = true ∧ spl (pt x k) = (dn x, lt1 k) := by
  have : ∀ (x : Fin 2) (k : Fin 4), nameB (pt x k) = true ∧ spl (pt x k) = (dn x, lt1 k) := by decide +kernel
  exact this ⟨x, h⟩ ⟨k, hk⟩
theorem dn_ne (x : Nat) : dn x ≠ [] := by simp [dn]
theorem dn_inj {x y : Nat} (hx : x < 2) (hy : y < 2) (h : dn x = dn y) : x = y := by
  have : ∀ x y : Fin 2, dn x = dn y → x = y := by decide +kernel
  exact Fin.mk.inj_iff.1 (this ⟨x, hx⟩ ⟨y, hy⟩ h)
theorem pt_inj {x y j k : Nat} (hx : x < 2) (hy : y < 2) (hj : j < 4) (hk : k < 4) (h : pt x j = pt y k) : x * 4 + j = y * 4 + k := by
  have : ∀ (x y : Fin 2) (j k : Fin 4), pt x j = pt y k → x.val * 4 + j.val = y.val * 4 + k.val := by decide +kernel
  exact this ⟨x, hx⟩ ⟨y, hy⟩ ⟨j, hj⟩ ⟨k, hk⟩ h
theorem pt_dn (x y k : Nat) : pt x k ≠ dn y := by simp [pt, dn]
theorem dn_abv {x : Nat} (hx : x < 2) (l : List Itm) : abv l (dn x) = 0 := by unfold abv; rw [(dn_name hx).2]; rfl
/-- How many there are in one, of the first so many. -/
def cx (b : List Bool) (x m : Nat) : Nat := ((b.drop (x * 4)).take m).count true
def ca (b : List Bool) (m : Nat) : Nat := (b.take m).count true
theorem ca_next {b : List Bool} {m : Nat} {v : Bool} (h : b[m]? = some v) : ca b (m + 1) = ca b m + (if v = true then 1 else 0) := by
  obtain ⟨hi, he⟩ := List.getElem?_eq_some_iff.1 h
  unfold ca
  rw [List.take_succ_eq_append_getElem hi, he, List.count_append]
  cases v <;> rfl
theorem cx_next {b : List Bool} {x m : Nat} {v : Bool} (h : b[x * 4 + m]? = some v) : cx b x (m + 1) = cx b x m + (if v = true then 1 else 0) := by
  have h' : (b.drop (x * 4))[m]? = some v := by rw [List.getElem?_drop]; exact h
  exact ca_next (b := b.drop (x * 4)) h'
theorem count_put {b : List Bool} {j : Nat} {u v : Bool} (h : b[j]? = some u) : (b.set j v).count true + (if u = true then 1 else 0) = b.count true + (if v = true then 1 else 0) := by
  induction b generalizing j with
  | nil => cases h
  | cons c b ih =>
    cases j with
    | zero => have : c = u := by simpa using h
              subst this
              cases c <;> cases v <;> simp
    | succ j =>
      have := ih (j := j) (by simpa using h)
      rw [List.set_cons_succ, List.count_cons, List.count_cons]
      omega
theorem ca_set {b : List Bool} {j : Nat} {u v : Bool} (hl : b.length = 8) (h : b[j]? = some u) : ca (b.set j v) 8 + (if u = true then 1 else 0) = ca b 8 + (if v = true then 1 else 0) := by
  unfold ca
  rw [List.take_of_length_le (by rw [List.length_set, hl]; exact Nat.le_refl _), List.take_of_length_le (by rw [hl]; exact Nat.le_refl _)]
  exact count_put h
theorem cx_set {b : List Bool} {x y k : Nat} {u v : Bool} (hx : x < 2) (hy : y < 2) (hk : k < 4) (hl : b.length = 8) (h : b[x * 4 + k]? = some u) :
    cx (b.set (x * 4 + k) v) y 4 + (if x = y then (if u = true then 1 else 0) else 0) = cx b y 4 + (if x = y then (if v = true then 1 else 0) else 0) := by
  unfold cx
  by_cases e : x = y
  · subst e
    have h' : ((b.drop (x * 4)).take 4)[k]? = some u := by rw [List.getElem?_take_of_lt hk, List.getElem?_drop]; exact h
    have := count_put (v := v) h'
    rw [if_pos rfl, if_pos rfl, List.drop_set, if_neg (by omega), List.take_set, show x * 4 + k - x * 4 = k by omega]
    exact this
  · rw [if_neg e, if_neg e, List.drop_set]
    split
    · rfl
    · rw [List.take_set, List.set_eq_of_length_le (by simp; omega)]
theorem many_snoc (l : List Itm) (i : Itm) (p : List UInt8) : manyL (l ++ [i]) p = manyL l p + (if (spl i.p).1 = p then 1 else 0) := by
  unfold manyL
  rw [List.filter_append, List.length_append]
  by_cases h : (spl i.p).1 = p <;> simp [h]
theorem many_erase {l : List Itm} {p q : List UInt8} {i : Itm} (h : look l p = some i) : manyL l q = manyL (l.eraseP (is p)) q + (if (spl p).1 = q then 1 else 0) := by
  obtain ⟨k, _, h2, h3, _⟩ := ix_some h
  obtain ⟨hk, he⟩ := List.getElem?_eq_some_iff.1 h2
  have e : l = l.take k ++ i :: l.drop (k + 1) := by rw [← he, ← List.drop_eq_getElem_cons hk, List.take_append_drop]
  have hp := look_path h
  rw [h3]
  conv => lhs; rw [e]
  unfold manyL
  rw [List.filter_append, List.filter_append, List.length_append, List.length_append, List.filter_cons, hp]
  by_cases hq : (spl p).1 = q
  · simp [hq]; omega
  · simp [hq]
/-- What is there, at the k-th of the law's numbers. -/
structure DirI (s : St) (b : List Bool) (k : Nat) : Prop where
  ok : Ok s.l
  len : s.l.length = 2 + ca b 8
  n8 : s.l.length ≤ 8
  bl : b.length = 8
  dir : ∀ x, x < 2 → ∃ i, look s.l (dn x) = some i ∧ i.d = true
  at_ : ∀ x j, x < 2 → j < 4 → b[x * 4 + j]? = some (look s.l (pt x j)).isSome
  many : ∀ x, x < 2 → manyL s.l (dn x) = cx b x 4
  nx0 : 0 ≤ s.nx
  nxk : s.nx ≤ 2 + (k : Int)
theorem DirI.skip {s : St} {b : List Bool} {k : Nat} (h : DirI s b k) : DirI s b (k + 1) := ⟨h.ok, h.len, h.n8, h.bl, h.dir, h.at_, h.many, h.nx0, by have := h.nxk; omega⟩
section
variable {s : St} {b : List Bool} {k x j : Nat} (h : DirI s b k) (hx : x < 2) (hj : j < 4)
include h hx
theorem DirI.abv0 (hj : j < 4) : abv s.l (pt x j) = 0 := by
  obtain ⟨i, h1, h2⟩ := h.dir x hx
  unfold abv
  rw [(pt_name hx hj).2, if_neg (dn_ne x), h1]
  simp [h2]
theorem DirI.mny : manyT s.l (dn x) = cx b x 4 := by
  obtain ⟨i, h1, h2⟩ := h.dir x hx
  unfold manyT
  rw [find_some (dn_name hx).1 (dn_abv hx _) h1, h2, h.many x hx]
  rfl
theorem DirI.full (hm : 0 < cx b x 4) : dropT s (dn x) true = (65319, s) := by
  obtain ⟨i, h1, h2⟩ := h.dir x hx
  unfold dropT
  rw [find_some (dn_name hx).1 (dn_abv hx _) h1, h2, h.many x hx]
  simp [hm]
include hj
theorem DirI.yes (hb : b[x * 4 + j]? = some true) : ∃ i, look s.l (pt x j) = some i ∧ i.d = false := by
  rw [h.at_ x j hx hj] at hb
  cases hk : look s.l (pt x j) with
  | none => rw [hk] at hb; cases hb
  | some i => exact ⟨i, rfl, h.ok.flat i (look_mem hk) (by rw [look_path hk, (pt_name hx hj).2]; exact dn_ne x)⟩
theorem DirI.nil (hb : b[x * 4 + j]? = some false) : look s.l (pt x j) = none := by
  rw [h.at_ x j hx hj] at hb
  cases hk : look s.l (pt x j) with
  | none => rfl
  | some i => rw [hk] at hb; cases hb
theorem DirI.make (hb : b[x * 4 + j]? = some false) (hn : s.l.length < 8) : DirI ⟨s.l ++ [⟨pt x j, false, s.nx⟩], s.nx + 1⟩ (b.set (x * 4 + j) true) (k + 1) := by
  have hk := h.nil hx hj hb
  obtain ⟨h1, h2⟩ := pt_name hx hj
  have hc := ca_set (v := true) h.bl hb
  refine ⟨h.ok.snoc h1 hk (fun _ => ?_) (fun _ => rfl), ?_, by simp; omega, by simp [h.bl], fun y hy => ?_, fun y m hy hm => ?_, fun y hy => ?_, by have := h.nx0; show 0 ≤ s.nx + 1; omega, by have := h.nxk; show s.nx + 1 ≤ 2 + ((k + 1 : Nat) : Int); omega⟩
  · obtain ⟨i, d1, d2⟩ := h.dir x hx
    exact ⟨i, look_mem d1, by rw [look_path d1, h2], d2⟩
  · have := h.len
    simp at hc
    simp; omega
  · obtain ⟨i, d1, d2⟩ := h.dir y hy
    exact ⟨i, by rw [look_snoc, d1], d2⟩
  · rw [List.getElem?_set, look_snoc]
    by_cases e : x * 4 + j = y * 4 + m
    · have e1 : x = y := by omega
      have e2 : j = m := by omega
      subst e1 e2
      rw [if_pos rfl, if_pos (by rw [h.bl]; omega), hk]
      simp
    · rw [if_neg e, h.at_ y m hy hm]
      have : ¬ pt x j = pt y m := fun e2 => e (pt_inj hx hy hj hm e2)
      cases look s.l (pt y m) with
      | none => simp [this]
      | some i => rfl
  · have := cx_set (v := true) hx hy hj h.bl hb
    rw [many_snoc, h.many y hy, h2]
    by_cases e : x = y
    · subst e; simp at this ⊢; omega
    · have : ¬ dn x = dn y := fun e2 => e (dn_inj hx hy e2)
      simp [e] at *; simp [this]; omega
theorem DirI.drop (hb : b[x * 4 + j]? = some true) : DirI ⟨s.l.eraseP (is (pt x j)), s.nx⟩ (b.set (x * 4 + j) false) (k + 1) := by
  obtain ⟨i, hi, hd⟩ := h.yes hx hj hb
  obtain ⟨h1, h2⟩ := pt_name hx hj
  have hl := erase_len hi
  have hc := ca_set (v := false) h.bl hb
  have hln := h.len
  have hn8 := h.n8
  refine ⟨h.ok.erase (h.ok.none_in hi hd), ?_, by show (s.l.eraseP _).length ≤ 8; omega, by simp [h.bl], fun y hy => ?_, fun y m hy hm => ?_, fun y hy => ?_, h.nx0, by have := h.nxk; show s.nx ≤ 2 + ((k + 1 : Nat) : Int); omega⟩
  · simp at hc
    show (s.l.eraseP _).length = _
    omega
  · obtain ⟨i, d1, d2⟩ := h.dir y hy
    exact ⟨i, (look_erase_ne (pt_dn x y j).symm).trans d1, d2⟩
  · rw [List.getElem?_set]
    by_cases e : x * 4 + j = y * 4 + m
    · have e1 : x = y := by omega
      have e2 : j = m := by omega
      subst e1 e2
      rw [if_pos rfl, if_pos (by rw [h.bl]; omega), show look (s.l.eraseP (is (pt x j))) (pt x j) = none from look_erase_self h.ok _]
      rfl
    · rw [if_neg e, h.at_ y m hy hm, show look (s.l.eraseP (is (pt x j))) (pt y m) = look s.l (pt y m) from look_erase_ne (fun e2 => e (pt_inj hx hy hj hm e2.symm))]
  · have := cx_set (v := false) hx hy hj h.bl hb
    have hm := many_erase (q := dn y) hi
    rw [h.many y hy, h2] at hm
    show manyL (s.l.eraseP _) (dn y) = _
    by_cases e : x = y
    · subst e; simp at this hm ⊢; omega
    · have hne : ¬ dn x = dn y := fun e2 => e (dn_inj hx hy e2)
      simp [e] at this; simp [hne] at hm; omega
end
/-- The two directories alone. -/
def ed2 : List Ent := [(dn 0, true), (dn 1, true)]
def sd2 : St := ⟨[⟨dn 0, true, 0⟩, ⟨dn 1, true, 1⟩], 2⟩
theorem newd2 : newT ed2 = some sd2 := by
  have : (newT ed2).map (fun s => (s.l, s.nx)) = some (sd2.l, sd2.nx) := by decide +kernel
  cases h : newT ed2 with
  | none => rw [h] at this; cases this
  | some s => rw [h] at this; simp only [Option.map_some, Option.some.injEq, Prod.mk.injEq] at this; obtain ⟨l, n⟩ := s; obtain ⟨rfl, rfl⟩ := this; rfl
theorem dir2 : DirI sd2 (List.replicate 8 false) 0 := by
  refine ⟨(new_ok1 newd2).1, by decide +kernel, by decide, by decide, fun x hx => ?_, fun x j hx hj => ?_, fun x hx => ?_, by decide, by decide⟩
  · have : ∀ x : Fin 2, (look sd2.l (dn x.val)).map (·.d) = some true := by decide +kernel
    have h := this ⟨x, hx⟩
    cases hk : look sd2.l (dn x) with
    | none => rw [show look sd2.l (dn (⟨x, hx⟩ : Fin 2).val) = none from hk] at h; cases h
    | some i => rw [show look sd2.l (dn (⟨x, hx⟩ : Fin 2).val) = some i from hk] at h; exact ⟨i, rfl, Option.some.inj h⟩
  · have : ∀ (x : Fin 2) (j : Fin 4), (List.replicate 8 false)[x.val * 4 + j.val]? = some (look sd2.l (pt x.val j.val)).isSome := by decide +kernel
    exact this ⟨x, hx⟩ ⟨j, hj⟩
  · have : ∀ x : Fin 2, manyL sd2.l (dn x.val) = cx (List.replicate 8 false) x.val 4 := by decide +kernel
    exact this ⟨x, hx⟩
end Go.Proofs.Ytlnobekjcengfaa
