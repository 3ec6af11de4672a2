/-
  What make, drop and move make of what can be found: plain data.
-/
import Derived.Test.YtlnobekjcengfaaTreeO
namespace Go.Proofs.Ytlnobekjcengfaa
set_option linter.unusedVariables false

theorem look_snoc (l : List Itm) (i : Itm) (p : List UInt8) : look (l ++ [i]) p = match look l p with | some j => some j | none => if i.p = p then some i else none := by
  unfold look
  rw [List.find?_append]
  cases List.find? (is p) l with
  | some j => rfl
  | none => by_cases h : i.p = p <;> simp [is, h]
theorem look_erase_ne {l : List Itm} {a b : List UInt8} (h : a ≠ b) : look (l.eraseP (is b)) a = look l a := by
  induction l with
  | nil => rfl
  | cons x l ih =>
    by_cases hx : is b x = true
    · rw [List.eraseP_cons_of_pos hx]
      unfold look
      have hna : ¬ is a x = true := fun e => h ((eq_of_beq e).symm.trans (eq_of_beq hx))
      rw [List.find?_cons_of_neg hna]
    · rw [List.eraseP_cons_of_neg hx]
      unfold look at *
      by_cases ha : is a x = true
      · rw [List.find?_cons_of_pos ha, List.find?_cons_of_pos ha]
      · rw [List.find?_cons_of_neg ha, List.find?_cons_of_neg ha]
        exact ih
theorem look_none {l : List Itm} {p : List UInt8} (h : ∀ j ∈ l, j.p ≠ p) : look l p = none := by
  unfold look
  rw [List.find?_eq_none]
  intro j hj
  simp [is, h j hj]
theorem look_erase_self {l : List Itm} (h : Ok l) (p : List UInt8) : look (l.eraseP (is p)) p = none := look_none (erase_not h)
theorem erase_len {l : List Itm} {p : List UInt8} {i : Itm} (h : look l p = some i) : (l.eraseP (is p)).length + 1 = l.length := by
  have hm := look_mem h
  have := List.length_eraseP_of_mem (p := is p) hm (by simp [is, look_path h])
  have := List.length_pos_of_mem hm
  omega
theorem ren_len (a b : List UInt8) : ∀ l : List Itm, (ren a b l).length = l.length
  | [] => rfl
  | i :: l => by rw [ren]; split <;> simp [ren_len a b l]
theorem look_ren_to {a b : List UInt8} : ∀ {l : List Itm} {i : Itm}, look l a = some i → (∀ j ∈ l, j.p ≠ b) → look (ren a b l) b = some ⟨b, i.d, i.n⟩
  | [], i, h, _ => by cases h
  | x :: l, i, h, hb => by
    rw [ren]
    unfold look at h ⊢
    split
    · rename_i e
      rw [List.find?_cons_of_pos (by simp [is, e])] at h
      cases h
      rw [List.find?_cons_of_pos (by simp [is])]
    · rename_i e
      rw [List.find?_cons_of_neg (by simp [is, e])] at h
      rw [List.find?_cons_of_neg (by simp [is, hb x List.mem_cons_self])]
      exact look_ren_to h (fun j hj => hb j (List.mem_cons_of_mem _ hj))
theorem look_ren_from {a b : List UInt8} (hab : a ≠ b) : ∀ {l : List Itm}, (l.map (·.p)).Nodup → look (ren a b l) a = none
  | [], _ => rfl
  | x :: l, h => by
    rw [List.map_cons, List.nodup_cons] at h
    rw [ren]
    split
    · rename_i e
      refine look_none fun j hj => ?_
      rcases List.mem_cons.1 hj with rfl | hj
      · exact hab.symm
      · exact fun e2 => h.1 (List.mem_map.2 ⟨j, hj, e2.trans e.symm⟩)
    · rename_i e
      have := look_ren_from hab h.2
      unfold look at this ⊢
      rw [List.find?_cons_of_neg (by simp [is, e])]
      exact this
theorem look_ren_ne {a b c : List UInt8} (ha : c ≠ a) (hb : c ≠ b) : ∀ {l : List Itm}, look (ren a b l) c = look l c
  | [] => rfl
  | x :: l => by
    rw [ren]
    split
    · rename_i e
      unfold look
      rw [List.find?_cons_of_neg (by simp [is, hb.symm]), List.find?_cons_of_neg (by simp [is, e, ha.symm])]
    · have := look_ren_ne ha hb (l := l)
      unfold look at this ⊢
      by_cases h : x.p = c
      · rw [List.find?_cons_of_pos (by simp [is, h]), List.find?_cons_of_pos (by simp [is, h])]
      · rw [List.find?_cons_of_neg (by simp [is, h]), List.find?_cons_of_neg (by simp [is, h])]
        exact this
/-! ### A file at a path of which nothing stands ahead -/
section
variable {s : St} {p : List UInt8} (hn : nameB p = true) (h0 : abv s.l p = 0)
include hn h0
theorem find_some {i : Itm} (h : look s.l p = some i) : findT s.l p = (i.n, i.d, 0) := by unfold findT; rw [if_pos hn, if_pos h0, h]
theorem find_none (h : look s.l p = none) : findT s.l p = (-1, false, 65282) := by unfold findT; rw [if_pos hn, if_pos h0, h]
theorem make_there {i : Itm} (h : look s.l p = some i) (d : Bool) : makeT s p d = ((-1, 65297), s) := by unfold makeT; rw [if_pos hn, if_pos h0, h]
theorem make_full (h : look s.l p = none) (hl : 8 ≤ s.l.length) : makeT s p false = ((-1, 65308), s) := by unfold makeT; rw [if_pos hn, if_pos h0, h]; simp only; rw [if_neg (by simp), if_pos hl]
theorem make_new (h : look s.l p = none) (hl : ¬ 8 ≤ s.l.length) : makeT s p false = ((s.nx, 0), ⟨s.l ++ [⟨p, false, s.nx⟩], s.nx + 1⟩) := by unfold makeT; rw [if_pos hn, if_pos h0, h]; simp only; rw [if_neg (by simp), if_neg hl]
theorem drop_none (h : look s.l p = none) (d : Bool) : dropT s p d = (65282, s) := by unfold dropT; rw [find_none hn h0 h]; rfl
theorem drop_file {i : Itm} (h : look s.l p = some i) (hd : i.d = false) : dropT s p false = (0, ⟨s.l.eraseP (is p), s.nx⟩) := by unfold dropT; rw [find_some hn h0 h, hd]; simp
end
end Go.Proofs.Ytlnobekjcengfaa
