/-
  A square of marks in memory: a row of rows of truths.
-/
import Derived.Test.YthjbjbbbbdhcmaaCheckO
import Derived.Test.YthjbjbbbbdhcmaaCheckF
namespace Go.Proofs.Ythjbjbbbbdhcmaa
open Go.ChangeShapes Go.WideShapes Go.ChangeAt Go.RowKit Go.Joins
set_option linter.unusedVariables false

def bools (f : Nat → Bool) : Array Value := ((List.range 17).map fun h => Value.bool (f h)).toArray
def outs (r n m : Nat) : Array Value := ((List.range n).map fun i => if i < m then Value.slice (some ⟨r + 1 + i, 0, none⟩) 17 17 else .slice none 0 0).toArray
theorem bools_get (f : Nat → Bool) {h : Nat} (hh : h < 17) : (bools f)[h]? = some (.bool (f h)) := by
  unfold bools
  rw [List.getElem?_toArray, List.getElem?_map, List.getElem?_range hh]
  rfl
theorem outs_get {r n m i : Nat} (hi : i < n) : (outs r n m)[i]? = some (if i < m then Value.slice (some ⟨r + 1 + i, 0, none⟩) 17 17 else .slice none 0 0) := by
  unfold outs
  rw [List.getElem?_toArray, List.getElem?_map, List.getElem?_range hi]
  rfl
theorem bools_size (f : Nat → Bool) : (bools f).size = 17 := by simp [bools]
theorem outs_size (r n m : Nat) : (outs r n m).size = n := by simp [outs]
theorem arr_ext {a b : Array Value} {n : Nat} (ha : a.size = n) (hb : b.size = n) (h : ∀ i, i < n → a[i]? = b[i]?) : a = b := by
  apply Array.ext_getElem?
  intro i
  by_cases hi : i < n
  · exact h i hi
  · rw [Array.getElem?_eq_none (by omega), Array.getElem?_eq_none (by omega)]
theorem outs_set {r n m : Nat} (hm : m < n) : (outs r n m).setIfInBounds m (.slice (some ⟨r + 1 + m, 0, none⟩) 17 17) = outs r n (m + 1) := by
  refine arr_ext (n := n) (by rw [Array.size_setIfInBounds, outs_size]) (outs_size _ _ _) fun i hi => ?_
  rw [Array.getElem?_setIfInBounds, outs_size, outs_get hi, outs_get hi]
  by_cases e : m = i
  · subst e
    rw [if_pos rfl, if_pos hi, if_pos (by omega)]
  · rw [if_neg e]
    by_cases e2 : i < m
    · rw [if_pos e2, if_pos (by omega)]
    · rw [if_neg e2, if_neg (by omega)]
theorem bools_set {f : Nat → Nat → Bool} {i h : Nat} (hh : h < 17) : (bools (f i)).setIfInBounds h (.bool true) = bools (mrk f i h i) := by
  refine arr_ext (n := 17) (by rw [Array.size_setIfInBounds, bools_size]) (bools_size _) fun j hj => ?_
  rw [Array.getElem?_setIfInBounds, bools_size, bools_get _ hj, bools_get _ hj]
  by_cases e : h = j
  · subst e
    rw [if_pos rfl, if_pos hh, mk_self]
  · rw [if_neg e]
    have : mrk f i h i j = f i j := by simp [mrk]; intro e2; exact absurd e2.symm e
    rw [this]
theorem bools_other {f : Nat → Nat → Bool} {i h j : Nat} (e : j ≠ i) : bools (mrk f i h j) = bools (f j) := by
  congr 1
  funext b
  simp [mrk, e]
theorem made_outs (r n : Nat) : madeCells #[Value.slice none 0 0] n = outs r n 0 := by
  apply Array.toList_inj.1
  rw [toList_madeCells_one]
  unfold outs
  simp
  rw [List.map_const']
  simp
theorem made_bools : madeCells #[Value.bool false] 17 = bools (fun _ => false) := by
  apply Array.toList_inj.1
  rw [toList_madeCells_one]
  rfl
/-- The square: n rows of 17, m of which are laid. -/
structure Mat (W w : World) (r n m : Nat) (f : Nat → Nat → Bool) : Prop where
  gw : Gw W w
  ge : W.heap.size ≤ r
  out : Has w r 44 (outs r n m)
  inn : ∀ i, i < m → Has w (r + 1 + i) 4 (bools (f i))
section
variable {W w w' : World} {r n m : Nat} {f : Nat → Nat → Bool}
theorem Mat.start (h : Gw W w) (n : Nat) : Mat W (w.alloc (.cells (madeCells #[.slice none 0 0] n) 44)) w.heap.size n 0 (fun _ _ => false) :=
  ⟨h.trans (Gw.alloc _ _), h.size, by rw [made_outs w.heap.size n]; exact Has.new _ _ _, fun i hi => by omega⟩
theorem Mat.on (h : Mat W w r n m f) (g : Gw w w') : Mat W w' r n m f := ⟨h.gw.trans g, h.ge, h.out.on g, fun i hi => (h.inn i hi).on g⟩
theorem Mat.add (h : Mat W w r n m (fun _ _ => false)) (hm : m < n) (hs : w.heap.size = r + 1 + m) :
    Mat W ((w.alloc (.cells (madeCells #[.bool false] 17) 4)).setCell ⟨r, m, none⟩ (.slice (some ⟨r + 1 + m, 0, none⟩) 17 17)) r n (m + 1) (fun _ _ => false) := by
  have h1 := h.on (Gw.alloc w (.cells (madeCells #[.bool false] 17) 4))
  refine ⟨(But.set r _ _ _).gw h1.gw h.ge, h.ge, ?_, fun i hi => ?_⟩
  · have := h1.out.put m (.slice (some ⟨r + 1 + m, 0, none⟩) 17 17)
    rw [outs_set hm] at this
    exact this
  · refine (But.set r _ _ _).has (by omega) ?_
    by_cases e : i = m
    · subst e
      rw [← hs, made_bools]
      exact Has.new _ _ _
    · exact h1.inn i (by omega)
theorem Mat.mark (h : Mat W w r n m f) {i b : Nat} (hi : i < m) (hb : b < 17) : Mat W (w.setCell ⟨r + 1 + i, b, none⟩ (.bool true)) r n m (mrk f i b) := by
  refine ⟨(But.set _ _ _ _).gw h.gw (by have := h.ge; omega), h.ge, (But.set _ _ _ _).has (by omega) h.out, fun j hj => ?_⟩
  by_cases e : j = i
  · subst e
    have := (h.inn j hj).put b (.bool true)
    rw [bools_set hb] at this
    exact this
  · rw [bools_other e]
    exact (But.set _ _ _ _).has (by omega) (h.inn j hj)
theorem Mat.o (h : Mat W w r n n f) {i : Nat} (hi : i < n) : w.cell? ⟨r, i, none⟩ = some (.slice (some ⟨r + 1 + i, 0, none⟩) 17 17) := by
  rw [h.out.cell, outs_get hi, if_pos hi]
theorem Mat.c (h : Mat W w r n m f) {i b : Nat} (hi : i < m) (hb : b < 17) : w.cell? ⟨r + 1 + i, b, none⟩ = some (.bool (f i b)) := by
  rw [(h.inn i hi).cell, bools_get _ hb]
theorem Mat.z (h : Mat W w r n m f) {i b : Nat} (hi : i < m) : w.frozen? ⟨r + 1 + i, b, none⟩ = false := (h.inn i hi).free b
end
end Go.Proofs.Ythjbjbbbbdhcmaa
