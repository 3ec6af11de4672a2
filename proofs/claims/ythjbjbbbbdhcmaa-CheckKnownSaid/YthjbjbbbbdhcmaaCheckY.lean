/-
  Awake of stage 11's laws, over what Run and Heights are to answer.
-/
import Derived.Test.YthjbjbbbbdhcmaaCheckX
namespace Go.Proofs.Ythjbjbbbbdhcmaa
open Go.ChangeShapes Go.WideShapes Go.ChangeAt Go.RowKit Go.Joins
set_option linter.unusedVariables false

theorem pok_cells {W : World} {g : Nat} {cs : Array Value} {L : List (Int × Int)} {n c : Nat} (h : W.heap[g]? = some (.cells cs 38 (0, 0))) (hL : L.length = n) (hn : n ≤ c) (hc : c ≤ 9223372036854775807) (hx : ∀ i x, L[i]? = some x → cs[i * 2]? = some (.int .i64 x.1) ∧ cs[i * 2 + 1]? = some (.int .i64 x.2))
    (hw : ∀ x ∈ L, (Lit.int .i64 x.1).wf = true ∧ (Lit.int .i64 x.2).wf = true) : POk W (some ⟨g, 0, none⟩) L c none [] 0 := by
  refine ⟨by omega, hc, Nat.le_refl _, by decide, fun i x hi => ?_, (fun i s hs => by simp at hs), (fun s hs => by cases hs), hw⟩
  obtain ⟨h1, h2⟩ := hx i x hi
  refine ⟨g, 0, rfl, (Array.getElem?_eq_some_iff.1 h).1, ?_, ?_⟩
  · rw [Nat.zero_add]
    unfold World.cell?
    rw [h]
    exact h1
  · rw [Nat.zero_add]
    unfold World.cell?
    rw [h]
    exact h2
theorem pok_two {W : World} {g : Nat} {a b c d : Int} (h : W.heap[g]? = some (.cells #[.int .i64 a, .int .i64 b, .int .i64 c, .int .i64 d] 38 (0, 0))) (h1 : (Lit.int .i64 a).wf = true ∧ (Lit.int .i64 b).wf = true) (h2 : (Lit.int .i64 c).wf = true ∧ (Lit.int .i64 d).wf = true) : POk W (some ⟨g, 0, none⟩) [(a, b), (c, d)] 2 none [] 0 :=
  pok_cells h rfl (Nat.le_refl _) (by decide) (fun i x hi => by
    match i with
    | 0 => simp at hi; subst hi; exact ⟨rfl, rfl⟩
    | 1 => simp at hi; subst hi; exact ⟨rfl, rfl⟩
    | i + 2 => simp at hi) (fun x hx => by
    simp only [List.mem_cons, List.mem_nil_iff, or_false] at hx
    rcases hx with rfl | rfl
    · exact h1
    · exact h2)
theorem isA : Is [(1, 0), (26, 0)] [] 0 0 [0, 1] := by
  obtain ⟨hs, h⟩ := push_well (l := []) (by decide) (fun j hj => by
    rcases (show j = 0 ∨ j = 1 by simp at hj; omega) with rfl | rfl
    · decide
    · decide)
  obtain ⟨_, s1, s2, s3, hb, H⟩ := h.ok rfl
  refine .well s1 s2 s3 hb ⟨rfl, fun i hi => ?_⟩
  have e : pushL [] = [(1, 0), (26, 0)] := rfl
  rcases (show i = 0 ∨ i = 1 by simp at hi; omega) with rfl | rfl
  · exact .inl ⟨0, .zero, rfl⟩
  · exact .inl ⟨1, by
      have := Reach.next (L := [(1, 0), (26, 0)]) .zero rfl (push_st.2 (by omega)) (by decide) (by decide)
      rw [push_to] at this
      exact this, rfl⟩
theorem isB : Is [(1, 0), (1, 0)] [] 1 8 [] := by
  have hf : fault 2 0 1 ((1 : Int), (0 : Int)) = 8 := by decide
  have := Is.single (L := [(1, 0), (1, 0)]) (N := []) (i := 1) (x := (1, 0)) ⟨by decide, by decide, by decide⟩ named_nil rfl (by decide) (fun j y hj hy => by
    obtain rfl : j = 0 := by omega
    simp at hy
    subst hy
    decide)
  exact this
set_option maxRecDepth 100000 in
set_option maxHeartbeats 8000000 in
theorem awake_c (r : RunC) (h : HtsC) : AwC := by
  intro W
  have hw1 : (Lit.int .i64 1).wf = true ∧ (Lit.int .i64 0).wf = true := by decide
  have hw2 : (Lit.int .i64 26).wf = true ∧ (Lit.int .i64 0).wf = true := by decide
  have RA : ∀ W : World, Calls Try.prog 10 #[.agg #[.slice (some ⟨W.heap.size, 0, none⟩) 2 2, .slice none 0 0]] (W.alloc (.cells #[.int .i64 1, .int .i64 0, .int .i64 26, .int .i64 0] 38)) fun e W' => e = .returned (.tuple #[.int .i64 0, .int .i64 0]) ∧ Gw W W' := fun W =>
    (r (pok_two (heap_alloc_new W _) hw1 hw2)).mono fun e W' ⟨k, f, hs, he, hi, hg⟩ => by
      obtain ⟨rfl, rfl, rfl⟩ := Is.det hi isA
      exact ⟨he, (Gw.alloc _ _).trans hg⟩
  have RB : ∀ W : World, Calls Try.prog 10 #[.agg #[.slice (some ⟨W.heap.size, 0, none⟩) 2 2, .slice none 0 0]] (W.alloc (.cells #[.int .i64 1, .int .i64 0, .int .i64 1, .int .i64 0] 38)) fun e W' => e = .returned (.tuple #[.int .i64 1, .int .i64 8]) ∧ Gw W W' := fun W =>
    (r (pok_two (heap_alloc_new W _) hw1 hw1)).mono fun e W' ⟨k, f, hs, he, hi, hg⟩ => by
      obtain ⟨rfl, rfl, rfl⟩ := Is.det hi isB
      exact ⟨he, (Gw.alloc _ _).trans hg⟩
  have HA : ∀ W : World, Calls Try.prog 13 #[.agg #[.slice (some ⟨W.heap.size, 0, none⟩) 2 2, .slice none 0 0]] (W.alloc (.cells #[.int .i64 1, .int .i64 0, .int .i64 26, .int .i64 0] 38)) fun e W' => ∃ A c, e = .returned (.slice A 2 c) ∧ NumsAt W' A [0, 1] ∧ Gw W W' := fun W =>
    (h (pok_two (heap_alloc_new W _) hw1 hw2)).mono fun e W' ⟨k, f, v, hs, he, hi, hr⟩ => by
      obtain ⟨rfl, rfl, rfl⟩ := Is.det hi isA
      obtain ⟨A, c, rfl, hn⟩ := hr.nums
      exact ⟨A, c, he, hn, (Gw.alloc _ _).trans hr.gw⟩
  have NL : ∀ W : World, NumsAt (W.alloc (.cells #[.int .i64 0, .int .i64 1] 3)) (some ⟨W.heap.size, 0, none⟩) [0, 1] := fun W j a hj => by
    obtain ⟨c0, c1, _, _⟩ := two_cells (heap_alloc_new W (.cells #[.int .i64 0, .int .i64 1] 3))
    match j with
    | 0 => simp at hj; subst hj; exact ⟨_, 0, rfl, c0⟩
    | 1 => simp at hj; subst hj; exact ⟨_, 0, rfl, c1⟩
    | j + 2 => simp at hj
  have SS : ∀ {W : World} {A B : Option Addr} {ca cb : Nat}, NumsAt W A [0, 1] → NumsAt W B [0, 1] → Calls Try.prog 12 #[.slice A 2 ca, .slice B 2 cb] W fun e W' => e = .returned (.bool true) ∧ Gw W W' := fun h h' => nsame_any h h' (by decide)
  go_enter Try.func8, Try.ntmps8
  go_wp2_with (first
    | (go_at_call 10; first
      | (with_reducible refine (RA _).mono ?_; rintro e w1 ⟨rfl, G1⟩)
      | (with_reducible refine (RB _).mono ?_; rintro e w2 ⟨rfl, G2⟩))
    | (go_at_call 13; with_reducible refine (HA _).mono ?_; rintro e w3 ⟨A3, c3, rfl, N3, G3⟩)
    | (go_at_call 12; with_reducible refine (SS (N3.gw (Gw.alloc _ _)) (NL _)).mono ?_; rintro e w4 ⟨rfl, G4⟩))
  go_ret
  exact ⟨by simp, G1.trans (G2.trans (G3.trans ((Gw.alloc _ _).trans G4)))⟩
end Go.Proofs.Ythjbjbbbbdhcmaa
