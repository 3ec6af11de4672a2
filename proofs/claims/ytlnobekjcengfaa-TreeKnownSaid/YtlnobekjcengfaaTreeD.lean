/-
  The document's own tree: Drop.
-/
import Derived.Test.YtlnobekjcengfaaTreeK
namespace Go.Proofs.Ytlnobekjcengfaa
open Go.ChangeShapes Go.WideShapes Go.ChangeAt Go.RowKit Go.Joins
set_option linter.unusedVariables false
set_option linter.unusedSimpArgs false

theorem find_zero {l : List Itm} {p : List UInt8} (h : (findT l p).2.2 = 0) : nameB p = true ∧ abv l p = 0 ∧ ∃ i, look l p = some i ∧ findT l p = (i.n, i.d, 0) := by
  unfold findT at h ⊢
  by_cases hb : nameB p = true
  · rw [if_pos hb] at h ⊢
    by_cases h0 : abv l p = 0
    · rw [if_pos h0] at h ⊢
      cases hk : look l p with
      | none => rw [hk] at h; simp at h
      | some i => exact ⟨hb, h0, i, rfl, rfl⟩
    · rw [if_neg h0] at h; exact absurd h h0
  · rw [if_neg hb] at h; simp at h
set_option maxRecDepth 100000 in
set_option maxHeartbeats 8000000 in
theorem rdrop_any {B : Nat} {W : World} {g : Nat} {sl : Value} {s : St} (h : Hid (RT B W g sl s)) (hsm : Sml s.l) (p : ByteArray) (hp : p.size ≤ 140737488351232) (dir : Bool) :
    Calls Try.prog 26 #[.pointer (some ⟨g, 0, none⟩), .string p, .bool dir] W fun e W' => e = .returned (.int .u16 (dropT s p.data.toList dir).1) ∧ RTo B W g sl (dropT s p.data.toList dir).2 W' := by
  have F := rfind_any h.out p hp
  have M := fun w (k : Gw W w) => many_any (h.out.on k) hsm p
  have A := fun w (k : Gw W w) => at_any (h.out.on k) p
  have hn : ∀ b w, (Op.unary .not (.bool b)).run Try.prog w = .ok (.bool (!b)) w := fun _ _ => rfl
  have GG : Gw W W := Gw.refl W
  unfold dropT
  unfold fV at F
  by_cases h0 : (findT s.l p.data.toList).2.2 = 0
  case neg =>
    have hne : ((findT s.l p.data.toList).2.2 == 0) = false := by simp [h0]
    simp only [h0, if_false]
    generalize findT s.l p.data.toList = r at *
    obtain ⟨x, d, e⟩ := r
    simp only at h0 hne F ⊢
    clear h0
    go_enter Try.func26, Try.ntmps26
    go_wp2_with (first
      | (go_at_call 24; with_reducible refine F.mono ?_; rintro e w' ⟨rfl, G1⟩; have GG := GG.trans G1)
      | (go_at_call 37; with_reducible refine (M _ GG).mono ?_; rintro e w' ⟨rfl, G1⟩; have GG := GG.trans G1)
      | (go_at_call 22; with_reducible refine (A _ GG).mono ?_; rintro e w' ⟨rfl, G1⟩; have GG := GG.trans G1)
      | (go_at_call 38; with_reducible refine (R _ GG).mono ?_; rintro e w' ⟨rfl, RR⟩))
    go_ret
    exact ⟨rfl, RTo.of_gw h.out GG⟩
  obtain ⟨_, _, i, hk, he⟩ := find_zero h0
  rw [he] at F ⊢
  obtain ⟨k, r, cap, hix, hki, hlt, rfl, hcap, hcm, D0, D1, D2⟩ := sl_look h.out.sl hk
  obtain ⟨k', hix', _, hera, _⟩ := ix_some hk
  have hkk : k' = k := by rw [hix] at hix'; omega
  subst hkk
  rw [hix] at A
  simp only [if_true]
  rw [hera]
  have R := fun w (q : Gw W w) => without_any (h.out.on q) k' hlt
  clear h0 he hix hix' hera hk D0 D1 D2 hki
  generalize i.d = d at *
  generalize i.n = x at *
  generalize manyL s.l p.data.toList = m at *
  cases dir with
  | false =>
    cases d with
    | true =>
      simp only [and_self, if_true]
      go_enter Try.func26, Try.ntmps26
      go_wp2_with (first
      | (go_at_call 24; with_reducible refine F.mono ?_; rintro e w' ⟨rfl, G1⟩; have GG := GG.trans G1)
      | (go_at_call 37; with_reducible refine (M _ GG).mono ?_; rintro e w' ⟨rfl, G1⟩; have GG := GG.trans G1)
      | (go_at_call 22; with_reducible refine (A _ GG).mono ?_; rintro e w' ⟨rfl, G1⟩; have GG := GG.trans G1)
      | (go_at_call 38; with_reducible refine (R _ GG).mono ?_; rintro e w' ⟨rfl, RR⟩))
      go_ret
      exact ⟨rfl, RTo.of_gw h.out GG⟩
    | false =>
      simp only [Bool.false_eq_true, and_false, false_and, if_false]
      go_enter Try.func26, Try.ntmps26
      go_wp2_with (first
      | (go_at_call 24; with_reducible refine F.mono ?_; rintro e w' ⟨rfl, G1⟩; have GG := GG.trans G1)
      | (go_at_call 37; with_reducible refine (M _ GG).mono ?_; rintro e w' ⟨rfl, G1⟩; have GG := GG.trans G1)
      | (go_at_call 22; with_reducible refine (A _ GG).mono ?_; rintro e w' ⟨rfl, G1⟩; have GG := GG.trans G1)
      | (go_at_call 38; with_reducible refine (R _ GG).mono ?_; rintro e w' ⟨rfl, RR⟩))
      go_ret
      exact ⟨rfl, RTo.pre GG RR⟩
  | true =>
    cases d with
    | false =>
      simp only [Bool.false_eq_true, Bool.true_eq_false, and_false, false_and, and_self, if_true, if_false]
      go_enter Try.func26, Try.ntmps26
      go_wp2_with (first
      | (go_at_call 24; with_reducible refine F.mono ?_; rintro e w' ⟨rfl, G1⟩; have GG := GG.trans G1)
      | (go_at_call 37; with_reducible refine (M _ GG).mono ?_; rintro e w' ⟨rfl, G1⟩; have GG := GG.trans G1)
      | (go_at_call 22; with_reducible refine (A _ GG).mono ?_; rintro e w' ⟨rfl, G1⟩; have GG := GG.trans G1)
      | (go_at_call 38; with_reducible refine (R _ GG).mono ?_; rintro e w' ⟨rfl, RR⟩))
      go_ret
      exact ⟨rfl, RTo.of_gw h.out GG⟩
    | true =>
      simp only [Bool.true_eq_false, and_false, false_and, if_false, true_and]
      by_cases hm : 0 < m
      · have hm' : (0 : Int) < m := by omega
        simp only [hm, if_true]
        go_enter Try.func26, Try.ntmps26
        go_wp2_with (first
      | (go_at_call 24; with_reducible refine F.mono ?_; rintro e w' ⟨rfl, G1⟩; have GG := GG.trans G1)
      | (go_at_call 37; with_reducible refine (M _ GG).mono ?_; rintro e w' ⟨rfl, G1⟩; have GG := GG.trans G1)
      | (go_at_call 22; with_reducible refine (A _ GG).mono ?_; rintro e w' ⟨rfl, G1⟩; have GG := GG.trans G1)
      | (go_at_call 38; with_reducible refine (R _ GG).mono ?_; rintro e w' ⟨rfl, RR⟩))
        go_ret
        exact ⟨rfl, RTo.of_gw h.out GG⟩
      · have hm' : ¬ (0 : Int) < m := by omega
        simp only [hm, if_false]
        go_enter Try.func26, Try.ntmps26
        go_wp2_with (first
      | (go_at_call 24; with_reducible refine F.mono ?_; rintro e w' ⟨rfl, G1⟩; have GG := GG.trans G1)
      | (go_at_call 37; with_reducible refine (M _ GG).mono ?_; rintro e w' ⟨rfl, G1⟩; have GG := GG.trans G1)
      | (go_at_call 22; with_reducible refine (A _ GG).mono ?_; rintro e w' ⟨rfl, G1⟩; have GG := GG.trans G1)
      | (go_at_call 38; with_reducible refine (R _ GG).mono ?_; rintro e w' ⟨rfl, RR⟩))
        go_ret
        exact ⟨rfl, RTo.pre GG RR⟩
end Go.Proofs.Ytlnobekjcengfaa
