/-
  place, worth and hold of package unit: what each answers, and what hold leaves.
-/
import Derived.Test.YtigomnbcalpohaaUnitK
namespace Go.Proofs.Ytigomnbcalpohaa
open Go.ChangeShapes Go.WideShapes Go.ChangeAt Go.RowKit
set_option linter.unusedVariables false

theorem pl_pos (i : Nat) : pl ((i : Int) + 1) = 2 * i := by unfold pl; rw [if_neg (by omega)]; omega
theorem pl_neg (i : Nat) : pl (-((i : Int) + 1)) = 2 * i + 1 := by unfold pl; rw [if_pos (by omega)]; omega
theorem place_any {n : Nat} (l : Int) (W : World) (h : LOk n l) (hn : n ≤ 65536) : Calls Try.prog 28 #[.int .i64 l] W fun e W' => e = .returned (.int .i64 (pl l : Nat)) ∧ W = W' := by
  obtain ⟨i, hi, rfl | rfl⟩ := h.form
  · rw [pl_pos]
    have h1 : i < 65536 := by omega
    clear h hi hn
    go_enter Try.func28, Try.ntmps28
    go_wp2
    go_ret
    refine ⟨ret_int ?_, rfl⟩
    first | (push_cast; omega) | (simp only [wrap64]; push_cast; omega)
  · rw [pl_neg]
    have h1 : i < 65536 := by omega
    have h2 : IntKind.i64.wrap (- -((i : Int) + 1)) = (i : Int) + 1 := by rw [Int.neg_neg]; exact wrap_in (by omega) (by omega)
    obtain ⟨l, hl⟩ : ∃ l : Int, l = -((i : Int) + 1) := ⟨_, rfl⟩
    rw [← hl] at h2 ⊢
    have h3 : l < 0 := by omega
    clear h hi hn
    go_enter Try.func28, Try.ntmps28
    go_wp2
    go_ret
    refine ⟨ret_int ?_, rfl⟩
    first | (push_cast; omega) | (simp only [wrap64]; push_cast; omega)
section
variable {B : Nat} {τ : Nat → Nat} {W : World} {p n : Nat} {cs : List (List Int)} {lf : List Int} {F : Nat → List Nat} {t hs : List Int} {cv lv wv tv hv : Value}
/-- A truth, as it lies. -/
theorem Ch.truth (h : Ch B τ W p n cs lf F t hs cv lv wv tv hv) {i : Nat} {x : Int} (hx : t[i]? = some x) : ∃ g cap, tv = .slice (some ⟨g, 0, none⟩) t.length cap ∧ W.cell? ⟨g, i, none⟩ = some (.int .i64 x) ∧ W.frozen? ⟨g, i, none⟩ = false ∧ t.length ≤ cap ∧ cap ≤ 9223372036854775807 := by
  obtain ⟨g, cap, h1, _, h2, h3, h4, h5⟩ := h.trow.cells i (.int .i64 x) (by rw [List.getElem?_map, hx]; rfl)
  rw [List.length_map] at h1 h4
  exact ⟨g, cap, h1, h2, h3, h4, h5⟩
theorem worth_any {l : Int} (h : Ch B τ W p n cs lf F t hs cv lv wv tv hv) (ht : TV n t) (ok : LOk n l) (hn : n ≤ 65536) :
    Calls Try.prog 30 #[ptr p, .int .i64 l] W fun e W' => e = .returned (.int .i64 (wo t l)) ∧ W = W' := by
  obtain ⟨i, hi, hl⟩ := ok.form
  obtain ⟨x, hx⟩ : ∃ x, t[i]? = some x := ⟨_, List.getElem?_eq_getElem (by rw [ht.1]; exact hi)⟩
  obtain ⟨g, cap, hv, hc, _, hcap, hcm⟩ := h.truth hx
  have c3 : W.cell? ⟨p, 3, none⟩ = some tv := h.blk.cell 3
  have hx3 := ht.2 i x hx
  have htl := ht.1
  subst hv
  have h1 : i < 65536 := by omega
  have h2 : i < t.length := by omega
  rcases hl with rfl | rfl
  · have HE := Lib.hid (show wo t ((i : Int) + 1) = x by rw [wo_pos, hx]; rfl)
    clear h hi ht ok hx
    go_enter Try.func30, Try.ntmps30
    go_wp2
    go_ret
    exact ⟨by rw [HE.out]; (first | done | rfl), rfl⟩
  · have HE := Lib.hid (show wo t (-((i : Int) + 1)) = -x by rw [wo_neg, hx]; rfl)
    have h4 : IntKind.i64.wrap (- -((i : Int) + 1)) = (i : Int) + 1 := by rw [Int.neg_neg]; exact wrap_in (by omega) (by omega)
    have h5 : IntKind.i64.wrap (-x) = -x := wrap_in (by omega) (by omega)
    obtain ⟨l, hl⟩ : ∃ l : Int, l = -((i : Int) + 1) := ⟨_, rfl⟩
    rw [← hl] at h4 HE ⊢
    have h6 : l < 0 := by omega
    clear h hi ht ok hx hl
    go_enter Try.func30, Try.ntmps30
    go_wp2
    go_ret
    exact ⟨by rw [HE.out]; (first | done | rfl), rfl⟩
theorem Blk.grown {τ : Nat → Nat} {r r' : Nat} {w w' : World} {g : Nat} {t e : TypeId} {cs : Array Value} {v : Value} {xs : List Value} (h : Blk τ r w g t cs) (k : Row τ r' w e v xs) (hne : r ≠ r') (hg : w.grownBy w' v.ownBlock) : Blk τ r w' g t cs :=
  ⟨(hg.block g h.lt fun e => hne (by rw [← h.2, ← k.2 g e.symm])).trans h.1, h.2⟩
def HoldPost (B : Nat) (τ : Nat → Nat) (W : World) (p n : Nat) (cs : List (List Int)) (lf : List Int) (F : Nat → List Nat) (t hs : List Int) (cv lv wv tv : Value) (l : Int) (W' : World) : Prop :=
  ∃ τ' hv', Ch B τ' W' p n cs lf F (setL t l) (hs ++ [l]) cv lv wv tv hv' ∧ Step (fun r => r = 1 ∨ r = 5 ∨ r = 6) τ τ' W W'
theorem hold_any {l : Int} (h : Ch B τ W p n cs lf F t hs cv lv wv tv hv) (ht : TV n t) (ok : LOk n l) (hn : n ≤ 65536) (hh : hs.length ≤ 65536) :
    Calls Try.prog 31 #[ptr p, .int .i64 l] W fun e W' => e = .returned (.tuple #[]) ∧ HoldPost B τ W p n cs lf F t hs cv lv wv tv l W' := by
  obtain ⟨i0, hi0, hz0, hz1, hz2⟩ := info_parts infoInt
  have HI := Lib.hid (show _ ∧ _ ∧ _ ∧ _ from ⟨hi0, hz0, hz1, hz2⟩)
  clear hi0 hz0 hz1 hz2
  obtain ⟨i, hi, hl⟩ := ok.form
  obtain ⟨x, hx⟩ : ∃ x, t[i]? = some x := ⟨_, List.getElem?_eq_getElem (by rw [ht.1]; exact hi)⟩
  obtain ⟨g, cap, hv', hc, hfr, hcap, hcm⟩ := h.truth hx
  have c3 : W.cell? ⟨p, 3, none⟩ = some tv := h.blk.cell 3
  have htl := ht.1
  have hit : i < t.length := by omega
  have hset : ∀ y : Int, at_ l = i → sg l = y → t.set i y = setL t l := fun y e1 e2 => by unfold setL; rw [e1, e2]
  have key : ∀ (y : Int) (W1 : World), W1 = (W.setCell ⟨g, i, none⟩ (.int .i64 y)) → setL t l = t.set i y →
      Hid (Ch B τ W1 p n cs lf F (setL t l) hs cv lv wv tv hv ∧ Step (fun r => r = 5) τ τ W W1) := fun y W1 e1 e2 => by
    rw [e1, e2]; exact h.setT hv' hit y
  have fin : ∀ (W1 wp : World) (c g1 : Nat), Ch B τ W1 p n cs lf F (setL t l) hs cv lv wv tv hv → Step (fun r => r = 5) τ τ W W1 → (W1.alloc (.cells #[.int .i64 l] 3)).grownBy wp hv.ownBlock → wp.ownsRow 0 3 1 (.slice (some ⟨g1, 0, none⟩) (hs.length + 1) c) (hs.length + 1) (ints hs ++ [.int .i64 l]) → (hv.ownBlock = some g1 ∨ g1 = W.heap.size + 1) → g1 < wp.heap.size → W1.heap.size = W.heap.size →
      wp.cell? ⟨p, 4, none⟩ = some hv ∧ wp.frozen? ⟨p, 4, none⟩ = false ∧ HoldPost B τ W p n cs lf F t hs cv lv wv tv l (wp.setCell ⟨p, 4, none⟩ (.slice (some ⟨g1, 0, none⟩) (hs.length + 1) c)) := fun W1 wp c g1 h1 s1 hg ho hat hlt hsz => by
    have b1 : Below W1.heap.size W1 (W1.alloc (.cells #[.int .i64 l] 3)) := (Below.refl _ _).alloc (Nat.le_refl _) _
    obtain ⟨τ', k1, k2⟩ := Ch.addH (h1.below b1) hg ho (hat.imp id (fun e => by simp; omega)) hlt
    have hb := (h1.below b1).blk.grown (h1.below b1).hrow (by decide) hg
    exact ⟨hb.cell 4, hb.free 4, τ', _, k1, ((s1.mono (fun r h => .inr (.inl h))).trans (Step.of_below _ _ b1)).trans (k2.mono (fun r h => h.imp id .inr))⟩
  have FIN := Lib.hid fin
  have KEY := Lib.hid key
  have HSET := Lib.hid hset
  obtain ⟨hA, hcap2, hform⟩ : ∃ A c, hv = .slice A hs.length c := by have := h.hrow.form; rwa [List.length_map] at this
  subst hform
  clear h ht hx key fin hset
  subst hv'
  have h1 : i < 65536 := by omega
  rcases hl with rfl | rfl
  · have KK := KEY.out 1 _ rfl (HSET.out 1 (at_pos i) (by unfold sg; rw [if_neg (by omega)])).symm
    have C1 := Lib.hid KK.out.1
    have S1 := Lib.hid KK.out.2
    clear KK KEY HSET
    have c4 : (W.setCell ⟨g, i, none⟩ (.int .i64 1)).cell? ⟨p, 4, none⟩ = some (.slice hA hs.length hcap2) := C1.out.blk.cell 4
    have HO : Hid ((W.setCell ⟨g, i, none⟩ (.int .i64 1)).ownsRow 0 3 1 (.slice hA hs.length hcap2) hs.length (ints hs)) := by have := C1.out.hrow.1; rw [List.length_map] at this; exact this
    have HZ : Hid ((W.setCell ⟨g, i, none⟩ (.int .i64 1)).heap.size = W.heap.size) := by simp [Hid, World.setCell]
    go_enter Try.func31, Try.ntmps31
    go_wp2_with (at_builtin; refine wpList_append_lies _ rfl _ _ _ rfl 0 3 i0 _ 1 8 Try.underlying23 HI.out.1 HI.out.2.1 HI.out.2.2.1 HI.out.2.2.2 rfl (by omega) (.slice hA hs.length hcap2) hs.length (ints hs) rfl (HO.out.alloc _) ⟨W.heap.size, 0, none⟩ 1 1 [.int .i64 ((i : Int) + 1)] rfl rfl (by rw [← HZ.out]; exact World.news_of_block (cs := #[.int .i64 ((i : Int) + 1)]) (t := 3) (fr := (0, 0)) (new_heap (W.setCell ⟨g, i, none⟩ (.int .i64 1)) _)) (by simp [Value.oneCell']) (by omega) (by unfold maxLen; omega) (by omega) (Nat.zero_le _) (W.heap.size + 1) (by simp [World.setCell]) ?_; intro g1 c1 wp hown1 hg1 hat1 hlt1; have HF := FIN.out _ wp c1 g1 C1.out S1.out hg1 hown1 hat1 hlt1 HZ.out; have c5 := HF.1; have f5 := HF.2.1; have HFF := Lib.hid HF.2.2; clear hown1 hg1 hat1 hlt1 HF)
    go_end0
    exact ⟨rfl, HFF.out⟩
  · have h4 : IntKind.i64.wrap (- -((i : Int) + 1)) = (i : Int) + 1 := by rw [Int.neg_neg]; exact wrap_in (by omega) (by omega)
    obtain ⟨l, hl⟩ : ∃ l : Int, l = -((i : Int) + 1) := ⟨_, rfl⟩
    have ha := at_neg i
    have hsg : sg (-((i : Int) + 1)) = -1 := by unfold sg; rw [if_pos (by omega)]
    rw [← hl] at h4 KEY HSET FIN ha hsg ⊢
    have h6 : l < 0 := by omega
    have KK := KEY.out (-1) _ rfl (HSET.out (-1) ha hsg).symm
    have C1 := Lib.hid KK.out.1
    have S1 := Lib.hid KK.out.2
    clear KK KEY HSET ha hsg ok hl
    have c4 : (W.setCell ⟨g, i, none⟩ (.int .i64 (-1))).cell? ⟨p, 4, none⟩ = some (.slice hA hs.length hcap2) := C1.out.blk.cell 4
    have HO : Hid ((W.setCell ⟨g, i, none⟩ (.int .i64 (-1))).ownsRow 0 3 1 (.slice hA hs.length hcap2) hs.length (ints hs)) := by have := C1.out.hrow.1; rw [List.length_map] at this; exact this
    have HZ : Hid ((W.setCell ⟨g, i, none⟩ (.int .i64 (-1))).heap.size = W.heap.size) := by simp [Hid, World.setCell]
    go_enter Try.func31, Try.ntmps31
    go_wp2_with (at_builtin; refine wpList_append_lies _ rfl _ _ _ rfl 0 3 i0 _ 1 8 Try.underlying23 HI.out.1 HI.out.2.1 HI.out.2.2.1 HI.out.2.2.2 rfl (by omega) (.slice hA hs.length hcap2) hs.length (ints hs) rfl (HO.out.alloc _) ⟨W.heap.size, 0, none⟩ 1 1 [.int .i64 l] rfl rfl (by rw [← HZ.out]; exact World.news_of_block (cs := #[.int .i64 l]) (t := 3) (fr := (0, 0)) (new_heap (W.setCell ⟨g, i, none⟩ (.int .i64 (-1))) _)) (by simp [Value.oneCell']) (by omega) (by unfold maxLen; omega) (by omega) (Nat.zero_le _) (W.heap.size + 1) (by simp [World.setCell]) ?_; intro g1 c1 wp hown1 hg1 hat1 hlt1; have HF := FIN.out _ wp c1 g1 C1.out S1.out hg1 hown1 hat1 hlt1 HZ.out; have c5 := HF.1; have f5 := HF.2.1; have HFF := Lib.hid HF.2.2; clear hown1 hg1 hat1 hlt1 HF)
    go_end0
    exact ⟨rfl, HFF.out⟩
end
end Go.Proofs.Ytigomnbcalpohaa
