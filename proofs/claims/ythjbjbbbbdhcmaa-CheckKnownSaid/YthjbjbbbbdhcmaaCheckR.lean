/-
  Reaching and heights: what a sweep has done, what a row of heights holds.
-/
import Derived.Test.YthjbjbbbbdhcmaaCheckQ
namespace Go.Proofs.Ythjbjbbbbdhcmaa
open Go.ChangeShapes Go.WideShapes Go.ChangeAt Go.RowKit Go.Joins
set_option linter.unusedVariables false

/-- A sweep that began at f0 has come to i and h; cb: has it marked anything? -/
structure Fx (L : List (Int × Int)) (n : Nat) (f0 f : Nat → Nat → Bool) (cb : Bool) (i h : Nat) : Prop where
  s : Sound L f
  no : cb = false → f = f0 ∧ Seen L f i h
  yes : cb = true → left f n < left f0 n
section
variable {L : List (Int × Int)} {n : Nat} {f0 f : Nat → Nat → Bool} {cb : Bool} {i h : Nat}
theorem Fx.start (s : Sound L f) : Fx L n f f false 0 0 := ⟨s, fun _ => ⟨rfl, Seen.zero L f⟩, fun h => by cases h⟩
theorem Fx.skip (x : Fx L n f0 f cb i h) (c : Cl L f i h) : Fx L n f0 f cb i (h + 1) := ⟨x.s, fun e => ⟨(x.no e).1, (x.no e).2.next c⟩, x.yes⟩
theorem Fx.row (x : Fx L n f0 f cb i 17) : Fx L n f0 f cb (i + 1) 0 := ⟨x.s, fun e => ⟨(x.no e).1, (x.no e).2.row⟩, x.yes⟩
theorem Fx.set (x : Fx L n f0 f cb i h) {a t i' h' : Nat} (ha : a < n) (ht : t < 17) (hf : f a t = false) (r : Reach L a t) : Fx L n f0 (mrk f a t) true i' h' := by
  refine ⟨x.s.mk r, (fun e => by cases e), fun _ => ?_⟩
  have h1 := left_mk (n := n) ha ht hf
  cases hc : cb with
  | true => have := x.yes hc; omega
  | false => rw [(x.no hc).1] at h1 ⊢; exact h1
theorem cl_of {x : Int × Int} (hx : L[i]? = some x) (hc : f i h = true → stepOk x h → ((x.1 = 22 ∨ x.1 = 23) → f x.2.toNat (toH x h) = true) ∧ (x.1 ≠ 22 → x.1 ≠ 26 → f (i + 1) (toH x h) = true)) : Cl L f i h := by
  intro hf y hy hs
  rw [hx] at hy
  injection hy with hy
  subst hy
  exact hc hf hs
theorem cl_un (hf : f i h = false) : Cl L f i h := fun e => by rw [hf] at e; cases e
end
/-- What a row of heights says of one instruction. -/
def Good (L : List (Int × Int)) (g : Nat → Int) (j : Nat) : Prop := ((∃ h : Nat, Reach L j h ∧ g j = h) ∨ ((∀ h, ¬ Reach L j h) ∧ g j = -1)) ∧ ¬ Bad L j
/-- What has been found of one instruction, the heights under b gone through. -/
def Part (L : List (Int × Int)) (j b : Nat) (x : Int × Int) (c : Int) : Prop := (c = -1 ∧ ∀ h, h < b → ¬ Reach L j h) ∨ ∃ h : Nat, h < b ∧ Reach L j h ∧ stepOk x h ∧ c = h ∧ ∀ h', h' < b → Reach L j h' → h' = h
section
variable {L : List (Int × Int)} {j b : Nat} {x : Int × Int} {c : Int}
theorem Part.start : Part L j 0 x (-1) := .inl ⟨rfl, fun h hh => by omega⟩
theorem Part.skip (p : Part L j b x c) (hr : ¬ Reach L j b) : Part L j (b + 1) x c := by
  rcases p with ⟨h1, h2⟩ | ⟨h, h1, h2, h3, h4, h5⟩
  · refine .inl ⟨h1, fun h hh r => ?_⟩
    by_cases e : h = b
    · subst e; exact hr r
    · exact h2 h (by omega) r
  · refine .inr ⟨h, by omega, h2, h3, h4, fun h' hh r => ?_⟩
    by_cases e : h' = b
    · subst e; exact absurd r hr
    · exact h5 h' (by omega) r
theorem Part.new (p : Part L j b x c) (hc : c < 0) (hr : Reach L j b) (hs : stepOk x b) : Part L j (b + 1) x b := by
  rcases p with ⟨h1, h2⟩ | ⟨h, h1, h2, h3, h4, h5⟩
  · refine .inr ⟨b, by omega, hr, hs, rfl, fun h' hh r => ?_⟩
    by_cases e : h' = b
    · exact e
    · exact absurd r (h2 h' (by omega))
  · omega
theorem Part.bad (p : Part L j b x c) (hx : L[j]? = some x) (hr : Reach L j b) (h : 0 ≤ c ∨ ¬ stepOk x b) : Bad L j := by
  refine ⟨x, b, hx, hr, ?_⟩
  rcases h with h | h
  · rcases p with ⟨h1, h2⟩ | ⟨h', h1, h2, h3, h4, h5⟩
    · omega
    · exact .inr ⟨h', by omega, h2⟩
  · exact .inl h
theorem Part.all (p : Part L j 17 x c) (hx : L[j]? = some x) {g : Nat → Int} (hg : g j = c) : Good L g j := by
  rcases p with ⟨h1, h2⟩ | ⟨h, h1, h2, h3, h4, h5⟩
  · have hn : ∀ h, ¬ Reach L j h := fun h r => h2 h (by have := r.le; omega) r
    exact ⟨.inr ⟨hn, by rw [hg, h1]⟩, fun ⟨_, h, _, r, _⟩ => hn h r⟩
  · refine ⟨.inl ⟨h, h2, by rw [hg, h4]⟩, fun ⟨y, k, hy, r, hb⟩ => ?_⟩
    rw [hx] at hy
    injection hy with hy
    subst hy
    have e : k = h := h5 k (by have := r.le; omega) r
    subst e
    rcases hb with hb | ⟨k', hk, r'⟩
    · exact hb h3
    · exact hk (h5 k' (by have := r'.le; omega) r')
end
def nums (n : Nat) (g : Nat → Int) : Array Value := ((List.range n).map fun j => Value.int .i64 (g j)).toArray
theorem nums_get {n j : Nat} (g : Nat → Int) (hj : j < n) : (nums n g)[j]? = some (.int .i64 (g j)) := by
  unfold nums
  rw [List.getElem?_toArray, List.getElem?_map, List.getElem?_range hj]
  rfl
theorem nums_size (n : Nat) (g : Nat → Int) : (nums n g).size = n := by simp [nums]
def setg (g : Nat → Int) (k : Nat) (c : Int) : Nat → Int := fun j => if j = k then c else g j
theorem setg_self (g : Nat → Int) (k : Nat) (c : Int) : setg g k c k = c := by simp [setg]
theorem setg_ne {g : Nat → Int} {k j : Nat} {c : Int} (h : j ≠ k) : setg g k c j = g j := by simp [setg, h]
theorem setg_setg (g : Nat → Int) (k : Nat) (c d : Int) : setg (setg g k c) k d = setg g k d := by
  funext j
  unfold setg
  split <;> rfl
theorem nums_set {n k : Nat} (g : Nat → Int) (c : Int) (hk : k < n) : (nums n g).setIfInBounds k (.int .i64 c) = nums n (setg g k c) := by
  refine arr_ext (n := n) (by rw [Array.size_setIfInBounds, nums_size]) (nums_size _ _) fun j hj => ?_
  rw [Array.getElem?_setIfInBounds, nums_size, nums_get _ hj, nums_get _ hj]
  by_cases e : k = j
  · subst e
    rw [if_pos rfl, if_pos hk, setg_self]
  · rw [if_neg e, setg_ne (fun k => e k.symm)]
theorem made_nums (n : Nat) : madeCells #[Value.int .i64 0] n = nums n (fun _ => 0) := by
  apply Array.toList_inj.1
  rw [toList_madeCells_one]
  unfold nums
  simp
  rw [List.map_const']
  simp
theorem Good.set {L : List (Int × Int)} {g : Nat → Int} {k j : Nat} {c : Int} (h : Good L g j) (hj : j < k) : Good L (setg g k c) j := by
  unfold Good
  rw [setg_ne (by omega)]
  exact h
theorem Mat.but {W w w' : World} {r n m k : Nat} {f : Nat → Nat → Bool} (h : Mat W w r n m f) (b : But k w w') (hk : r + 1 + m ≤ k) : Mat W w' r n m f :=
  ⟨b.gw h.gw (by have := h.ge; omega), h.ge, b.has (by omega) h.out, fun i hi => b.has (by omega) (h.inn i hi)⟩
/-- The row of heights, done. -/
theorem heights_is {W w : World} {hb : Nat} {L : List (Int × Int)} {g : Nat → Int} (hh : Has w hb 3 (nums L.length g)) (hw : Gw W w) (hge : W.heap.size ≤ hb) (hG : ∀ j, j < L.length → Good L g j) (hn : L.length ≤ maxLen) :
    ∃ hs, Hts L hs ∧ (∀ i, ¬ Bad L i) ∧ NRow W w (.slice (some ⟨hb, 0, none⟩) L.length L.length) hs := by
  have hl : ((List.range L.length).map g).length = L.length := by simp
  have hb' : ∀ i, ¬ Bad L i := fun i hB => by
    obtain ⟨x, h, hx, _⟩ := id hB
    exact (hG i (List.getElem?_eq_some_iff.1 hx).1).2 hB
  refine ⟨(List.range L.length).map g, ⟨hl, fun i hi => ?_⟩, hb', ⟨?_, hw⟩⟩
  · have e : ((List.range L.length).map g)[i]? = some (g i) := by rw [List.getElem?_map, List.getElem?_range hi]; rfl
    rw [e]
    rcases (hG i hi).1 with ⟨h, r, hg⟩ | ⟨h, hg⟩
    · exact .inl ⟨h, r, by rw [hg]⟩
    · exact .inr ⟨h, by rw [hg]⟩
  · rw [hl]
    refine ⟨by simp [i64s], .inr ⟨hb, L.length, nums L.length g, rfl, hge, hh, Nat.le_refl _, hn, by rw [nums_size]; omega, ?_⟩⟩
    simp only [nums, i64s, List.map_map, Nat.mul_one]
    rw [List.take_of_length_le (by simp)]
    rfl
end Go.Proofs.Ythjbjbbbbdhcmaa
