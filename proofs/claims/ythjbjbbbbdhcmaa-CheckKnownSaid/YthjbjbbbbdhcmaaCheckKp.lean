/-
  CheckKnown's programs: what a check answers of each, by the heights with which each instruction is reached.
-/
import Derived.Test.YthjbjbbbbdhcmaaCheckKb
namespace Go.Proofs.Ythjbjbbbbdhcmaa
open Go.ChangeShapes Go.WideShapes Go.ChangeAt Go.RowKit Go.Joins
set_option linter.unusedVariables false

/-- A set of pairs that holds all that is reached. -/
def closedB (L : List (Int × Int)) (S : List (Nat × Nat)) : Bool :=
  S.contains (0, 0) && S.all fun p => match L[p.1]? with
    | none => true
    | some x => if stepOk x p.2 then (if x.1 = 22 ∨ x.1 = 23 then S.contains (x.2.toNat, toH x p.2) else true) && (if x.1 ≠ 22 ∧ x.1 ≠ 26 then S.contains (p.1 + 1, toH x p.2) else true) else true
theorem reach_in {L : List (Int × Int)} {S : List (Nat × Nat)} (h : closedB L S = true) {i k : Nat} (r : Reach L i k) : (i, k) ∈ S := by
  unfold closedB at h
  rw [Bool.and_eq_true] at h
  obtain ⟨h0, h1⟩ := h
  rw [List.all_eq_true] at h1
  induction r with
  | zero => simpa using h0
  | @jump i k x r hx hs hj ih =>
    have := h1 _ ih
    simp only [hx] at this
    rw [if_pos hs, Bool.and_eq_true, if_pos hj] at this
    simpa using this.1
  | @next i k x r hx hs h2 h3 ih =>
    have := h1 _ ih
    simp only [hx] at this
    rw [if_pos hs, Bool.and_eq_true, if_pos (⟨h2, h3⟩ : x.1 ≠ 22 ∧ x.1 ≠ 26)] at this
    simpa using this.2
/-- Of the instruction at i all is well, by such a set. -/
def wellB (L : List (Int × Int)) (S : List (Nat × Nat)) (i : Nat) : Bool :=
  match L[i]? with
  | none => true
  | some x => S.all fun p => if p.1 = i then decide (stepOk x p.2) && S.all (fun q => if q.1 = i then decide (q.2 = p.2) else true) else true
theorem not_bad {L : List (Int × Int)} {S : List (Nat × Nat)} (h : closedB L S = true) {i : Nat} (hw : wellB L S i = true) : ¬ Bad L i := by
  rintro ⟨x, k, hx, r, hB⟩
  unfold wellB at hw
  simp only [hx] at hw
  rw [List.all_eq_true] at hw
  have h1 := hw _ (reach_in h r)
  simp only [if_true] at h1
  rw [Bool.and_eq_true, decide_eq_true_eq, List.all_eq_true] at h1
  rcases hB with hB | ⟨k', hne, r'⟩
  · exact hB h1.1
  · have h2 := h1.2 _ (reach_in h r')
    simp only [if_true, decide_eq_true_eq] at h2
    exact hne h2
theorem single_all {L : List (Int × Int)} {N : List ByteArray} (h : (List.range L.length).all (fun i => match L[i]? with | some x => decide (fault L.length N.length i x = 0) | none => true) = true) : Single L N := by
  intro i x hx
  have hi := (List.getElem?_eq_some_iff.1 hx).1
  have := List.all_eq_true.1 h i (List.mem_range.2 hi)
  simp only [hx] at this
  exact of_decide_eq_true this
theorem named_all {N : List ByteArray} (h : N.all (fun s => nameB s.data.toList) = true) : Named N := fun s hs => List.all_eq_true.1 h s hs
/-- The first instruction that is faulty by itself. -/
theorem is_single {L : List (Int × Int)} {N : List ByteArray} (i : Nat) (x : Int × Int) (f : Int) (s : Sized L N) (nm : N.all (fun s => nameB s.data.toList) = true) (hx : L[i]? = some x) (hf : fault L.length N.length i x = f) (h0 : f ≠ 0) (hb : (List.range i).all (fun j => match L[j]? with | some y => decide (fault L.length N.length j y = 0) | none => true) = true) : Is L N i f [] := by
  subst hf
  refine .single s (named_all nm) hx h0 fun j y hj hy => ?_
  have := List.all_eq_true.1 hb j (List.mem_range.2 hj)
  simp only [hy] at this
  exact of_decide_eq_true this
theorem is_stack {L : List (Int × Int)} {N : List ByteArray} (S : List (Nat × Nat)) (i : Nat) (s : Sized L N) (nm : N.all (fun s => nameB s.data.toList) = true) (hsg : (List.range L.length).all (fun i => match L[i]? with | some x => decide (fault L.length N.length i x = 0) | none => true) = true) (hc : closedB L S = true) (hb : Bad L i) (hw : (List.range i).all (wellB L S) = true) : Is L N i 7 [] :=
  .stack s (named_all nm) (single_all hsg) hb fun j hj => not_bad hc (List.all_eq_true.1 hw j (List.mem_range.2 hj))
theorem is_well {L : List (Int × Int)} {N : List ByteArray} (S : List (Nat × Nat)) (s : Sized L N) (nm : N.all (fun s => nameB s.data.toList) = true) (hsg : (List.range L.length).all (fun i => match L[i]? with | some x => decide (fault L.length N.length i x = 0) | none => true) = true) (hc : closedB L S = true) (hw : (List.range L.length).all (wellB L S) = true) {hs : List Int} (hh : Hts L hs) : Is L N 0 0 hs :=
  .well s (named_all nm) (single_all hsg) (fun i hB => by
    obtain ⟨x, k, hx, _⟩ := id hB
    exact not_bad hc (List.all_eq_true.1 hw i (List.mem_range.2 (List.getElem?_eq_some_iff.1 hx).1)) hB) hh
abbrev nA : ByteArray := ⟨#[97]⟩
theorem is0 : Is [] [] 0 3 [] := .full fun s => by have := s.l1; simp at this
theorem is1 : Is [(1, 0), (26, 0)] [⟨#[65]⟩] 0 10 [] := .name ⟨by decide, by decide, by decide⟩ fun h => by
  have := h ⟨#[65]⟩ (by simp)
  revert this
  decide +kernel
theorem is2 : Is [(1, 0), (99, 0), (26, 0)] [nA] 1 5 [] := is_single 1 (99, 0) 5 ⟨by decide, by decide, by decide⟩ (by decide +kernel) rfl (by decide +kernel) (by decide) (by decide +kernel)
theorem is3 : Is [(27, 1), (26, 0)] [nA] 0 10 [] := is_single 0 (27, 1) 10 ⟨by decide, by decide, by decide⟩ (by decide +kernel) rfl (by decide +kernel) (by decide) (by decide +kernel)
theorem is4 : Is [(22, 2), (26, 0)] [nA] 0 6 [] := is_single 0 (22, 2) 6 ⟨by decide, by decide, by decide⟩ (by decide +kernel) rfl (by decide +kernel) (by decide) (by decide +kernel)
theorem is5 : Is [(1, 0)] [nA] 0 8 [] := is_single 0 (1, 0) 8 ⟨by decide, by decide, by decide⟩ (by decide +kernel) rfl (by decide +kernel) (by decide) (by decide +kernel)
theorem is6 : Is [(26, 0)] [nA] 0 7 [] := is_stack [(0, 0)] 0 ⟨by decide, by decide, by decide⟩ (by decide +kernel) (by decide +kernel) (by decide +kernel) ⟨(26, 0), 0, rfl, .zero, .inl (by decide +kernel)⟩ rfl
theorem is7 : Is [(1, 0), (23, 3), (1, 0), (1, 0), (26, 0)] [nA] 3 7 [] := by
  have r1 : Reach [(1, 0), (23, 3), (1, 0), (1, 0), (26, 0)] 1 1 := Reach.next .zero (x := (1, 0)) rfl (by decide +kernel) (by decide) (by decide)
  have r3 : Reach [(1, 0), (23, 3), (1, 0), (1, 0), (26, 0)] 3 0 := Reach.jump r1 (x := (23, 3)) rfl (by decide +kernel) (by decide)
  have r2 : Reach [(1, 0), (23, 3), (1, 0), (1, 0), (26, 0)] 2 0 := Reach.next r1 (x := (23, 3)) rfl (by decide +kernel) (by decide) (by decide)
  have r4 : Reach [(1, 0), (23, 3), (1, 0), (1, 0), (26, 0)] 3 1 := Reach.next r2 (x := (1, 0)) rfl (by decide +kernel) (by decide) (by decide)
  exact is_stack [(0, 0), (1, 1), (2, 0), (3, 0), (3, 1), (4, 1), (4, 2)] 3 ⟨by decide, by decide, by decide⟩ (by decide +kernel) (by decide +kernel) (by decide +kernel) ⟨(1, 0), 0, rfl, r3, .inr ⟨1, by decide, r4⟩⟩ (by decide +kernel)
theorem is8 : Is [(1, 0), (1, 0), (1, 0), (23, 1), (26, 0)] [nA] 1 7 [] := by
  have r1 : Reach [(1, 0), (1, 0), (1, 0), (23, 1), (26, 0)] 1 1 := Reach.next .zero (x := (1, 0)) rfl (by decide +kernel) (by decide) (by decide)
  have r2 : Reach [(1, 0), (1, 0), (1, 0), (23, 1), (26, 0)] 2 2 := Reach.next r1 (x := (1, 0)) rfl (by decide +kernel) (by decide) (by decide)
  have r3 : Reach [(1, 0), (1, 0), (1, 0), (23, 1), (26, 0)] 3 3 := Reach.next r2 (x := (1, 0)) rfl (by decide +kernel) (by decide) (by decide)
  have r4 : Reach [(1, 0), (1, 0), (1, 0), (23, 1), (26, 0)] 1 2 := Reach.jump r3 (x := (23, 1)) rfl (by decide +kernel) (by decide)
  exact is_stack ((0, 0) :: (List.range 17).flatMap fun h => [(1, h), (2, h), (3, h), (4, h)]) 1 ⟨by decide, by decide, by decide⟩ (by decide +kernel) (by decide +kernel) (by decide +kernel) ⟨(1, 0), 1, rfl, r1, .inr ⟨2, by decide, r4⟩⟩ (by decide +kernel)
theorem is9 : Is [(2, 0), (1, 0), (26, 0)] [nA] 0 7 [] := is_stack [(0, 0)] 0 ⟨by decide, by decide, by decide⟩ (by decide +kernel) (by decide +kernel) (by decide +kernel) ⟨(2, 0), 0, rfl, .zero, .inl (by decide +kernel)⟩ rfl
theorem is10 : Is [(22, 0)] [nA] 0 0 [0] := is_well [(0, 0)] ⟨by decide, by decide, by decide⟩ (by decide +kernel) (by decide +kernel) (by decide +kernel) (by decide +kernel) ⟨rfl, fun i hi => by
  obtain rfl : i = 0 := by simp at hi; omega
  exact .inl ⟨0, .zero, rfl⟩⟩
theorem is11 : Is [(22, 3), (2, 0), (26, 0), (1, 0), (26, 0)] [nA] 0 0 [0, -1, -1, 0, 1] := by
  have r3 : Reach [(22, 3), (2, 0), (26, 0), (1, 0), (26, 0)] 3 0 := Reach.jump .zero (x := (22, 3)) rfl (by decide +kernel) (by decide)
  have r4 : Reach [(22, 3), (2, 0), (26, 0), (1, 0), (26, 0)] 4 1 := Reach.next r3 (x := (1, 0)) rfl (by decide +kernel) (by decide) (by decide)
  have hc : closedB [(22, 3), (2, 0), (26, 0), (1, 0), (26, 0)] [(0, 0), (3, 0), (4, 1)] = true := by decide +kernel
  refine is_well [(0, 0), (3, 0), (4, 1)] ⟨by decide, by decide, by decide⟩ (by decide +kernel) (by decide +kernel) hc (by decide +kernel) ⟨rfl, fun i hi => ?_⟩
  rcases (show i = 0 ∨ i = 1 ∨ i = 2 ∨ i = 3 ∨ i = 4 by simp at hi; omega) with rfl | rfl | rfl | rfl | rfl
  · exact .inl ⟨0, .zero, rfl⟩
  · exact .inr ⟨fun h r => by have := reach_in hc r; simp at this, rfl⟩
  · exact .inr ⟨fun h r => by have := reach_in hc r; simp at this, rfl⟩
  · exact .inl ⟨0, r3, rfl⟩
  · exact .inl ⟨1, r4, rfl⟩
def atK (k : Nat) : Int := [0, 0, 1, 0, 0, 0, 0, 3, 1, 0, 0, 0].getD k 0
def wantK (k : Nat) : Int := [3, 10, 5, 10, 6, 8, 7, 7, 7, 7, 0, 0].getD k 0
theorem lt12 {k : Nat} (hk : k < 12) : k = 0 ∨ k = 1 ∨ k = 2 ∨ k = 3 ∨ k = 4 ∨ k = 5 ∨ k = 6 ∨ k = 7 ∨ k = 8 ∨ k = 9 ∨ k = 10 ∨ k = 11 := by omega
theorem isK (k : Nat) (hk : k < 12) : ∃ hs, Is (progsK.getD k ([], [])).1 (progsK.getD k ([], [])).2 (atK k) (wantK k) hs := by
  rcases lt12 hk with rfl | rfl | rfl | rfl | rfl | rfl | rfl | rfl | rfl | rfl | rfl | rfl
  · exact ⟨_, is0⟩
  · exact ⟨_, is1⟩
  · exact ⟨_, is2⟩
  · exact ⟨_, is3⟩
  · exact ⟨_, is4⟩
  · exact ⟨_, is5⟩
  · exact ⟨_, is6⟩
  · exact ⟨_, is7⟩
  · exact ⟨_, is8⟩
  · exact ⟨_, is9⟩
  · exact ⟨_, is10⟩
  · exact ⟨_, is11⟩
theorem is_len {L : List (Int × Int)} {N : List ByteArray} {k f : Int} {hs : List Int} (h : Is L N k f hs) : hs.length = L.length ∧ 0 < L.length ↔ f = 0 := by
  cases h with
  | full h1 => exact ⟨fun h => by have := h.1; simp at this; omega, fun h => by cases h⟩
  | name h1 h2 => exact ⟨fun h => by have := h.1; simp at this; omega, fun h => by cases h⟩
  | single h1 h2 h3 h4 h5 => exact ⟨fun h => by have := h.1; simp at this; omega, fun h => absurd h h4⟩
  | stack h1 h2 h3 h4 h5 => exact ⟨fun h => by have := h.1; simp at this; omega, fun h => by cases h⟩
  | well h1 h2 h3 h4 h5 => exact ⟨fun _ => rfl, fun _ => ⟨h5.1, h1.l1⟩⟩
theorem isK_len {k : Nat} (hk : k < 12) {hs : List Int} (h : Is (progsK.getD k ([], [])).1 (progsK.getD k ([], [])).2 (atK k) (wantK k) hs) : hs.length = (progsK.getD k ([], [])).1.length ∧ 0 < (progsK.getD k ([], [])).1.length ↔ wantK k = 0 := is_len h
theorem atK_at {k : Nat} (hk : k < 12) : (#[.int .i64 0, .int .i64 0, .int .i64 1, .int .i64 0, .int .i64 0, .int .i64 0, .int .i64 0, .int .i64 3, .int .i64 1, .int .i64 0, .int .i64 0, .int .i64 0] : Array Value)[k]? = some (.int .i64 (atK k)) := by
  rcases lt12 hk with rfl | rfl | rfl | rfl | rfl | rfl | rfl | rfl | rfl | rfl | rfl | rfl <;> rfl
theorem wantK_at {k : Nat} (hk : k < 12) : (#[.int .i64 3, .int .i64 10, .int .i64 5, .int .i64 10, .int .i64 6, .int .i64 8, .int .i64 7, .int .i64 7, .int .i64 7, .int .i64 7, .int .i64 0, .int .i64 0] : Array Value)[k]? = some (.int .i64 (wantK k)) := by
  rcases lt12 hk with rfl | rfl | rfl | rfl | rfl | rfl | rfl | rfl | rfl | rfl | rfl | rfl <;> rfl
/-- As many pushed as there is room for, and one more. -/
theorem is16 : ∃ hs, Is (List.replicate 16 ((1 : Int), (0 : Int)) ++ [(26, 0)]) [] 0 0 hs := by
  have := push_well (l := List.replicate 15 true) (by decide) (fun j hj => by
    have hj' : j ≤ 16 := by simpa using hj
    have all : ∀ j : Fin 17, 0 ≤ hgt' (List.replicate 15 true) j.val ∧ hgt' (List.replicate 15 true) j.val ≤ 16 := by decide +kernel
    exact all ⟨j, by omega⟩)
  exact this
theorem is17 : Is (List.replicate 16 ((1 : Int), (0 : Int)) ++ [(1, 0), (26, 0)]) [] 16 7 [] := by
  have := push_stack (l := List.replicate 16 true) (i := 16) (by decide) (by decide) (fun j hj => by
    have all : ∀ j : Fin 17, 0 ≤ hgt' (List.replicate 16 true) j.val ∧ hgt' (List.replicate 16 true) j.val ≤ 16 := by decide +kernel
    exact all ⟨j, by omega⟩) (by decide +kernel)
  exact this
end Go.Proofs.Ythjbjbbbbdhcmaa
