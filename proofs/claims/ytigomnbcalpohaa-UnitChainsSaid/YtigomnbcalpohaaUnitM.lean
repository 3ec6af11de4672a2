/-
  What follows at once in a formula, as plain data: truths, what a literal is worth, formulas at rest, the least truths at rest; what settling a clause does. No program.
-/
import Derived.Test.YtigomnbcalpohaaClauM
namespace Go.Proofs.Ytigomnbcalpohaa
set_option linter.unusedVariables false

/-! ### Literals and truths -/
/-- A literal of n numbers. -/
def LOk (n : Nat) (l : Int) : Prop := l ≠ 0 ∧ -(n : Int) ≤ l ∧ l ≤ n
theorem LOk.neg {n : Nat} {l : Int} (h : LOk n l) : LOk n (-l) := by unfold LOk at *; omega
theorem LOk.form {n : Nat} {l : Int} (h : LOk n l) : ∃ i : Nat, i < n ∧ (l = (i : Int) + 1 ∨ l = -((i : Int) + 1)) := by
  unfold LOk at h
  by_cases e : l < 0
  · exact ⟨(-l - 1).toNat, by omega, .inr (by omega)⟩
  · exact ⟨(l - 1).toNat, by omega, .inl (by omega)⟩
/-- A row of truths: false, open, true. -/
def TV (n : Nat) (t : List Int) : Prop := t.length = n ∧ ∀ (i : Nat) (x : Int), t[i]? = some x → x = -1 ∨ x = 0 ∨ x = 1
/-- What a literal is worth. -/
def wo (t : List Int) (l : Int) : Int := if l < 0 then -(t[(-l - 1).toNat]?.getD 0) else t[(l - 1).toNat]?.getD 0
theorem wo_pos (t : List Int) (i : Nat) : wo t ((i : Int) + 1) = t[i]?.getD 0 := by
  unfold wo; rw [if_neg (by omega), show ((i : Int) + 1 - 1).toNat = i by omega]
theorem wo_neg (t : List Int) (i : Nat) : wo t (-((i : Int) + 1)) = -(t[i]?.getD 0) := by
  unfold wo; rw [if_pos (by omega), show (- -((i : Int) + 1) - 1).toNat = i by omega]
theorem wo_opp {n : Nat} {t : List Int} {l : Int} (h : LOk n l) : wo t (-l) = -wo t l := by
  obtain ⟨i, _, rfl | rfl⟩ := h.form
  · rw [wo_neg, wo_pos]
  · rw [Int.neg_neg, wo_neg, wo_pos, Int.neg_neg]
theorem wo_cases {n : Nat} {t : List Int} (h : TV n t) (l : Int) : wo t l = -1 ∨ wo t l = 0 ∨ wo t l = 1 := by
  have key : ∀ k : Nat, t[k]?.getD 0 = -1 ∨ t[k]?.getD 0 = 0 ∨ t[k]?.getD 0 = 1 := fun k => by
    cases e : t[k]? with
    | none => simp
    | some x => simpa using h.2 k x e
  unfold wo
  split
  · rcases key (-l - 1).toNat with e | e | e <;> rw [e] <;> simp
  · exact key _
/-- What is assigned in t is so in u. -/
def Up (t u : List Int) : Prop := ∀ (i : Nat) (x : Int), t[i]? = some x → x ≠ 0 → u[i]? = some x
theorem Up.refl (t : List Int) : Up t t := fun i x h _ => h
theorem Up.trans {t u v : List Int} (h : Up t u) (k : Up u v) : Up t v := fun i x hx h0 => k i x (h i x hx h0) h0
theorem Up.wo {t u : List Int} (h : Up t u) {l : Int} (h0 : wo t l ≠ 0) : Go.Proofs.Ytigomnbcalpohaa.wo u l = Go.Proofs.Ytigomnbcalpohaa.wo t l := by
  have key : ∀ k : Nat, t[k]?.getD 0 ≠ 0 → u[k]?.getD 0 = t[k]?.getD 0 := fun k hk => by
    cases e : t[k]? with
    | none => rw [e] at hk; simp at hk
    | some x => rw [e] at hk; simp at hk; rw [h k x e hk]
  unfold Go.Proofs.Ytigomnbcalpohaa.wo at *
  split
  · rename_i hl; rw [if_pos hl] at h0; rw [key _ (by omega)]
  · rename_i hl; rw [if_neg hl] at h0; rw [key _ h0]
theorem Up.anti {n : Nat} {t u : List Int} (ht : TV n t) (hu : TV n u) (h : Up t u) (k : Up u t) : t = u := by
  refine List.ext_getElem? fun i => ?_
  by_cases hi : i < n
  · obtain ⟨x, hx⟩ : ∃ x, t[i]? = some x := ⟨_, List.getElem?_eq_getElem (by rw [ht.1]; exact hi)⟩
    obtain ⟨y, hy⟩ : ∃ y, u[i]? = some y := ⟨_, List.getElem?_eq_getElem (by rw [hu.1]; exact hi)⟩
    by_cases h0 : x = 0
    · by_cases h1 : y = 0
      · rw [hx, hy, h0, h1]
      · rw [hy]; exact k i y hy h1
    · rw [hx]; exact (h i x hx h0).symm
  · rw [List.getElem?_eq_none (by rw [ht.1]; omega), List.getElem?_eq_none (by rw [hu.1]; omega)]

/-! ### Formulas at rest -/
def RestC (u : List Int) (c : List Int) : Prop := (∃ x ∈ c, wo u x = 1) ∨ ∃ x ∈ c, ∃ y ∈ c, x ≠ y ∧ wo u x = 0 ∧ wo u y = 0
def Rest (f : List (List Int)) (u : List Int) : Prop := ∀ c ∈ f, RestC u c
def Low (n : Nat) (f : List (List Int)) (m t : List Int) : Prop := ∀ u, TV n u → Up m u → Rest f u → Up t u
/-- What is answered: the least truths at rest, or nothing where there are none. -/
def Ans (n : Nat) (f : List (List Int)) (m : List Int) : Option (List Int) → Prop
  | some t => TV n t ∧ Up m t ∧ Rest f t ∧ Low n f m t
  | none => ∀ u, TV n u → Up m u → ¬ Rest f u
theorem Ans.det {n : Nat} {f : List (List Int)} {m : List Int} : ∀ {r s : Option (List Int)}, Ans n f m r → Ans n f m s → r = s
  | none, none, _, _ => rfl
  | none, some t, h, k => absurd k.2.2.1 (h t k.1 k.2.1)
  | some t, none, h, k => absurd h.2.2.1 (k t h.1 h.2.1)
  | some t, some u, h, k => by rw [Up.anti h.1 k.1 (h.2.2.2 u k.1 k.2.1 k.2.2.1) (k.2.2.2 t h.1 h.2.1 h.2.2.1)]
theorem Ans.rests {n : Nat} {f g : List (List Int)} {m : List Int} (h : ∀ u, TV n u → (Rest f u ↔ Rest g u)) : ∀ {r : Option (List Int)}, Ans n f m r → Ans n g m r
  | none, k => fun u hu hm hg => k u hu hm ((h u hu).2 hg)
  | some t, k => ⟨k.1, k.2.1, (h t k.1).1 k.2.2.1, fun u hu hm hg => k.2.2.2 u hu hm ((h u hu).2 hg)⟩
theorem RestC.mems {u c d : List Int} (h : ∀ x, x ∈ c ↔ x ∈ d) : RestC u c ↔ RestC u d := by
  unfold RestC
  constructor
  · rintro (⟨x, a, b⟩ | ⟨x, a, y, b, e⟩)
    · exact .inl ⟨x, (h x).1 a, b⟩
    · exact .inr ⟨x, (h x).1 a, y, (h y).1 b, e⟩
  · rintro (⟨x, a, b⟩ | ⟨x, a, y, b, e⟩)
    · exact .inl ⟨x, (h x).2 a, b⟩
    · exact .inr ⟨x, (h x).2 a, y, (h y).2 b, e⟩
theorem Rest.perm {f g : List (List Int)} {u : List Int} (h : ∀ c, c ∈ f ↔ c ∈ g) : Rest f u ↔ Rest g u :=
  ⟨fun k c hc => k c ((h c).2 hc), fun k c hc => k c ((h c).1 hc)⟩

/-! ### One literal made to hold -/
/-- Where a literal's number stands. -/
def at_ (l : Int) : Nat := if l < 0 then (-l - 1).toNat else (l - 1).toNat
def sg (l : Int) : Int := if l < 0 then -1 else 1
def setL (t : List Int) (l : Int) : List Int := t.set (at_ l) (sg l)
theorem at_pos (i : Nat) : at_ ((i : Int) + 1) = i := by unfold at_; rw [if_neg (by omega)]; omega
theorem at_neg (i : Nat) : at_ (-((i : Int) + 1)) = i := by unfold at_; rw [if_pos (by omega)]; omega
theorem at_lt {n : Nat} {l : Int} (h : LOk n l) : at_ l < n := by
  obtain ⟨i, hi, rfl | rfl⟩ := h.form
  · rw [at_pos]; exact hi
  · rw [at_neg]; exact hi
theorem wo_at {n : Nat} {t : List Int} {l : Int} (ht : TV n t) (h : LOk n l) : t[at_ l]? = some (sg l * wo t l) := by
  obtain ⟨i, hi, rfl | rfl⟩ := h.form
  all_goals
    obtain ⟨x, hx⟩ : ∃ x, t[i]? = some x := ⟨_, List.getElem?_eq_getElem (by rw [ht.1]; exact hi)⟩
  · rw [at_pos, wo_pos, hx]; unfold sg; rw [if_neg (by omega)]; simp
  · rw [at_neg, wo_neg, hx]; unfold sg; rw [if_pos (by omega)]; simp
theorem setL_get {n : Nat} {t : List Int} {l : Int} (ht : TV n t) (h : LOk n l) (i : Nat) : (setL t l)[i]? = if i = at_ l then some (sg l) else t[i]? := by
  unfold setL
  by_cases e : i = at_ l
  · subst e; rw [if_pos rfl, List.getElem?_set_self (by rw [ht.1]; exact at_lt h)]
  · rw [if_neg e, List.getElem?_set_ne (fun k => e k.symm)]
theorem setL_tv {n : Nat} {t : List Int} {l : Int} (ht : TV n t) (h : LOk n l) : TV n (setL t l) := by
  refine ⟨by unfold setL; rw [List.length_set, ht.1], fun i x hx => ?_⟩
  rw [setL_get ht h] at hx
  split at hx
  · injection hx with hx; subst hx; unfold sg; split <;> simp
  · exact ht.2 i x hx
theorem setL_up {n : Nat} {t : List Int} {l : Int} (ht : TV n t) (h : LOk n l) (h0 : wo t l = 0) : Up t (setL t l) := by
  intro i x hx hx0
  rw [setL_get ht h]
  by_cases e : i = at_ l
  · subst e
    rw [wo_at ht h, h0] at hx; simp at hx; exact absurd hx.symm hx0
  · rw [if_neg e]; exact hx
theorem setL_one {n : Nat} {t : List Int} {l : Int} (ht : TV n t) (h : LOk n l) : wo (setL t l) l = 1 := by
  have h1 := wo_at (setL_tv ht h) h
  rw [setL_get ht h, if_pos rfl] at h1
  injection h1 with h1
  unfold sg at h1
  split at h1 <;> omega
theorem setL_other {n : Nat} {t : List Int} {l x : Int} (ht : TV n t) (h : LOk n l) (hx : LOk n x) (h0 : wo t l = 0) (h1 : wo (setL t l) x = 1) : x = l ∨ wo t x = 1 := by
  by_cases e : at_ x = at_ l
  · obtain ⟨i, hi, hi'⟩ := hx.form
    obtain ⟨j, hj, hj'⟩ := h.form
    have hij : i = j := by
      have a : at_ x = i := by rcases hi' with rfl | rfl; exact at_pos i; exact at_neg i
      have b : at_ l = j := by rcases hj' with rfl | rfl; exact at_pos j; exact at_neg j
      omega
    subst hij
    by_cases hxl : x = l
    · exact .inl hxl
    · have : x = -l := by omega
      subst this
      rw [wo_opp h, setL_one ht h] at h1
      omega
  · right
    have g := wo_at (setL_tv ht h) hx
    rw [setL_get ht h, if_neg e, wo_at ht hx] at g
    injection g with g
    rw [h1] at g
    unfold sg at g
    split at g <;> omega
theorem Low.step {n : Nat} {f : List (List Int)} {m t : List Int} {c : List Int} {l : Int} (h : Low n f m t) (hc : c ∈ f) (hl : l ∈ c) (ok : LOk n l) (ht : TV n t) (hot : ∀ y ∈ c, y ≠ l → wo t y = -1) : Low n f m (setL t l) := by
  intro u hu hm hr
  have hut := h u hu hm hr
  have hy : ∀ y ∈ c, y ≠ l → wo u y = -1 := fun y hy hne => by
    rw [hut.wo (by rw [hot y hy hne]; decide), hot y hy hne]
  have h1 : wo u l = 1 := by
    rcases hr c hc with ⟨x, hx, h1⟩ | ⟨x, hx, y, hy', hne, hx0, hy0⟩
    · by_cases e : x = l
      · rw [← e]; exact h1
      · rw [hy x hx e] at h1; cases h1
    · by_cases e : x = l
      · have := hy y hy' (fun k => hne (e.trans k.symm)); omega
      · have := hy x hx e; omega
  intro i x hx hx0
  rw [setL_get ht ok] at hx
  split at hx
  · rename_i e
    subst e
    rw [← hx, wo_at hu ok, h1]; simp
  · exact hut i x hx hx0
theorem Low.bad {n : Nat} {f : List (List Int)} {m t : List Int} {c : List Int} (h : Low n f m t) (hc : c ∈ f) (hot : ∀ y ∈ c, wo t y = -1) : Ans n f m none := by
  intro u hu hm hr
  have hut := h u hu hm hr
  have hy : ∀ y ∈ c, wo u y = -1 := fun y hy => by rw [hut.wo (by rw [hot y hy]; decide), hot y hy]
  rcases hr c hc with ⟨x, hx, h1⟩ | ⟨x, hx, y, _, _, hx0, _⟩
  · rw [hy x hx] at h1; cases h1
  · rw [hy x hx] at hx0; cases hx0

/-! ### The clauses that count -/
def cls (f : List (List Int)) : List (List Int) := (f.map row).filter fun r => !taut r
theorem cls_no {f : List (List Int)} {c : List Int} (h : taut (row c) = true) : cls (f ++ [c]) = cls f := by unfold cls; simp [h]
theorem cls_yes {f : List (List Int)} {c : List Int} (h : taut (row c) = false) : cls (f ++ [c]) = cls f ++ [row c] := by unfold cls; simp [h]
def FOk (n : Nat) (f : List (List Int)) : Prop := ∀ c ∈ f, ∀ l ∈ c, LOk n l
theorem LOk.lit {n : Nat} {l : Int} (h : LOk n l) (hn : n ≤ 65536) : Go.Proofs.Ytigomnbcalpohaa.lit l = true := by
  unfold LOk at h
  exact (lit_iff (by unfold Wf; omega)).2 (by omega)
theorem row_mems {n : Nat} {c : List Int} (h : ∀ l ∈ c, LOk n l) (hn : n ≤ 65536) (x : Int) : x ∈ row c ↔ x ∈ c :=
  ⟨row_mem, fun hx => ((row_spec c).2 x).2 ⟨hx, (h x hx).lit hn⟩⟩
theorem cls_ok {n : Nat} {f : List (List Int)} (h : FOk n f) : FOk n (cls f) := by
  intro c hc l hl
  unfold cls at hc
  obtain ⟨hc, _⟩ := List.mem_filter.1 hc
  obtain ⟨d, hd, rfl⟩ := List.mem_map.1 hc
  exact h d hd l (row_mem hl)
theorem cls_rest {n : Nat} {f : List (List Int)} {u : List Int} (h : FOk n f) (hn : n ≤ 65536) (hu : TV n u) : Rest (cls f) u ↔ Rest f u := by
  constructor
  · intro k c hc
    have hm := row_mems (h c hc) hn
    cases ht : taut (row c) with
    | false =>
      exact (RestC.mems hm).1 (k (row c) (List.mem_filter.2 ⟨List.mem_map_of_mem hc, by rw [ht]; rfl⟩))
    | true =>
      obtain ⟨i, x, y, hx, hy, e⟩ := taut_iff.1 ht
      have hx := (hm x).1 (List.mem_of_getElem? hx)
      have hy := (hm y).1 (List.mem_of_getElem? hy)
      subst e
      have ok := h c hc x hx
      have ho := wo_opp (t := u) ok
      rcases wo_cases hu x with e | e | e
      · exact .inl ⟨-x, hy, by omega⟩
      · exact .inr ⟨x, hx, -x, hy, by have := ok.1; omega, e, by omega⟩
      · exact .inl ⟨x, hx, e⟩
  · intro k c hc
    unfold cls at hc
    obtain ⟨hc, _⟩ := List.mem_filter.1 hc
    obtain ⟨d, hd, rfl⟩ := List.mem_map.1 hc
    exact (RestC.mems (row_mems (h d hd) hn)).2 (k d hd)
theorem rise_nodup {c : List Int} (h : Rise c) : c.Nodup := by
  refine List.Pairwise.imp ?_ h
  intro x y hxy e
  subst e; rw [ltL_irr] at hxy; cases hxy
theorem cls_nodup {f : List (List Int)} {c : List Int} (h : c ∈ cls f) : c.Nodup := by
  unfold cls at h
  obtain ⟨hc, _⟩ := List.mem_filter.1 h
  obtain ⟨d, _, rfl⟩ := List.mem_map.1 hc
  exact rise_nodup (row_spec d).1

/-! ### What holds, and what is gone -/
/-- How many of a clause's literals are not gone, where done was gone through. -/
def cnt (done : List Int) (c : List Int) : Nat := (c.filter fun x => decide (-x ∉ done)).length
theorem cnt_nil (c : List Int) : cnt [] c = c.length := by unfold cnt; simp
theorem cnt_yes {done c : List Int} {h : Int} (hc : c.Nodup) (hm : -h ∈ c) (hd : h ∉ done) : cnt (done ++ [h]) c + 1 = cnt done c := by
  unfold cnt
  induction c with
  | nil => simp at hm
  | cons a ts ih =>
    have hn := List.nodup_cons.1 hc
    by_cases e : a = -h
    · subst e
      rw [List.filter_cons, List.filter_cons, if_neg (by simp), if_pos (by simp [hd]), List.length_cons]
      congr 2
      refine List.filter_congr fun x hx => ?_
      have : x ≠ -h := fun k => hn.1 (k ▸ hx)
      have : -x ≠ h := by omega
      simp [this]
    · have hm' : -h ∈ ts := by rcases List.mem_cons.1 hm with k | k; exact absurd k.symm e; exact k
      have := ih hn.2 hm'
      have ha : -a ≠ h := by omega
      rw [List.filter_cons, List.filter_cons]
      by_cases hd' : -a ∈ done
      · rw [if_neg (by simp [hd']), if_neg (by simp [hd'])]; exact this
      · rw [if_pos (by simp [hd', ha]), if_pos (by simp [hd'])]; simp only [List.length_cons]; omega
theorem cnt_no {done c : List Int} {h : Int} (hm : -h ∉ c) : cnt (done ++ [h]) c = cnt done c := by
  unfold cnt
  congr 1
  refine List.filter_congr fun x hx => ?_
  have : x ≠ -h := fun k => hm (k ▸ hx)
  have : -x ≠ h := by omega
  simp [this]
theorem cnt_two {done c : List Int} {x y : Int} (hx : x ∈ c) (hy : y ∈ c) (hxd : -x ∉ done) (hyd : -y ∉ done) (hne : x ≠ y) : 2 ≤ cnt done c := by
  unfold cnt
  have mx : x ∈ c.filter fun x => decide (-x ∉ done) := List.mem_filter.2 ⟨hx, by simpa using hxd⟩
  have my : y ∈ c.filter fun x => decide (-x ∉ done) := List.mem_filter.2 ⟨hy, by simpa using hyd⟩
  generalize c.filter (fun x => decide (-x ∉ done)) = s at mx my
  match s, mx, my with
  | [a], mx, my => simp at mx my; exact absurd (mx.trans my.symm) hne
  | a :: b :: s, _, _ => simp
theorem two_of_cnt {done c : List Int} (hc : c.Nodup) (h : 2 ≤ cnt done c) : ∃ x ∈ c, ∃ y ∈ c, x ≠ y ∧ -x ∉ done ∧ -y ∉ done := by
  unfold cnt at h
  have hn : (c.filter fun x => decide (-x ∉ done)).Nodup := hc.sublist List.filter_sublist
  have hm : ∀ x ∈ c.filter (fun x => decide (-x ∉ done)), x ∈ c ∧ -x ∉ done := fun x hx => by
    have := List.mem_filter.1 hx; exact ⟨this.1, by simpa using this.2⟩
  generalize c.filter (fun x => decide (-x ∉ done)) = s at h hn hm
  match s, h with
  | a :: b :: s, _ =>
    exact ⟨a, (hm a (by simp)).1, b, (hm b (by simp)).1, fun e => by subst e; simp at hn, (hm a (by simp)).2, (hm b (by simp)).2⟩
/-- The truths, and the literals that hold. -/
structure Hs (n : Nat) (t hs : List Int) : Prop where
  tv : TV n t
  ok : ∀ l ∈ hs, LOk n l ∧ wo t l = 1
  all : ∀ l, LOk n l → wo t l = 1 → l ∈ hs
  once : hs.Nodup
  len : hs.length + t.count 0 = n
theorem Hs.le {n : Nat} {t hs : List Int} (h : Hs n t hs) : hs.length ≤ n := by have := h.len; omega
theorem Hs.hold {n : Nat} {t hs : List Int} {l : Int} (h : Hs n t hs) (ok : LOk n l) (h0 : wo t l = 0) : Hs n (setL t l) (hs ++ [l]) := by
  have up := setL_up h.tv ok h0
  refine ⟨setL_tv h.tv ok, fun x hx => ?_, fun x hx h1 => ?_, ?_, ?_⟩
  · rcases List.mem_append.1 hx with hx | hx
    · have := h.ok x hx
      exact ⟨this.1, by rw [up.wo (by rw [this.2]; decide), this.2]⟩
    · simp at hx; subst hx; exact ⟨ok, setL_one h.tv ok⟩
  · rcases setL_other h.tv ok hx h0 h1 with e | e
    · simp [e]
    · exact List.mem_append_left _ (h.all x hx e)
  · refine List.nodup_append.2 ⟨h.once, by simp, fun x hx y hy e => ?_⟩
    simp at hy; subst hy; subst e
    have := (h.ok x hx).2; omega
  · have hat := wo_at h.tv ok
    rw [h0] at hat; simp at hat
    have hlt : at_ l < t.length := by rw [h.tv.1]; exact at_lt ok
    have hg : t[at_ l] = 0 := by rw [List.getElem?_eq_getElem hlt] at hat; injection hat
    have hc := List.count_set (a := sg l) (b := (0 : Int)) hlt
    have hpos : 0 < t.count 0 := List.count_pos_iff.2 (hg ▸ List.getElem_mem hlt)
    have hsg : (sg l == (0 : Int)) = false := by unfold sg; split <;> rfl
    rw [hg, hsg] at hc
    simp at hc
    have := h.len
    unfold setL
    rw [List.length_append, hc]; simp; omega
end Go.Proofs.Ytigomnbcalpohaa
