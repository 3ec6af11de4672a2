/-
  The document's own tree: Find and Many.
-/
import Derived.Test.YtlnobekjcengfaaTreeR
namespace Go.Proofs.Ytlnobekjcengfaa
open Go.ChangeShapes Go.WideShapes Go.ChangeAt Go.RowKit Go.Joins
set_option linter.unusedVariables false
set_option linter.unusedSimpArgs false

theorem abv_some {l : List Itm} (p : List UInt8) : abv l p = 0 ∨ abv l p = 65282 ∨ abv l p = 65300 := by
  unfold abv
  split
  · exact .inl rfl
  · split
    · exact .inr (.inl rfl)
    · split
      · exact .inl rfl
      · exact .inr (.inr rfl)
/-- What Find answers. -/
def fV (r : Int × Bool × Int) : Value := .tuple #[.int .i64 r.1, .bool r.2.1, .int .u16 r.2.2]
set_option maxHeartbeats 4000000 in
theorem rfind_any {B : Nat} {W : World} {g : Nat} {sl : Value} {s : St} (h : RT B W g sl s) (p : ByteArray) (hp : p.size ≤ 140737488351232) : Calls Try.prog 24 #[.pointer (some ⟨g, 0, none⟩), .string p] W fun e W' => e = .returned (fV (findT s.l p.data.toList)) ∧ Gw W W' := by
  have F := fun w => rname_any p w
  have T := fun w (k : Gw W w) => above_any (h.on k) p hp
  have hn : ∀ b w, (Op.unary .not (.bool b)).run Try.prog w = .ok (.bool (!b)) w := fun _ _ => rfl
  have GG : Gw W W := Gw.refl W
  unfold findT fV
  cases hb : nameB p.data.toList with
  | false =>
    rw [hb] at F
    simp only [Bool.false_eq_true, if_false]
    clear hb T
    go_enter Try.func24, Try.ntmps24
    go_wp2_with (go_at_call 21; with_reducible refine (F _).mono ?_; rintro e w' ⟨rfl, G1⟩; have GG := GG.trans G1)
    go_ret3
    exact ⟨rfl, GG⟩
  | true =>
    rw [hb] at F
    simp only [if_true]
    clear hb
    by_cases h0 : abv s.l p.data.toList = 0
    · simp only [h0, if_true]
      rw [h0] at T
      clear h0
      have A := fun w (k : Gw W w) => at_any (h.on k) p
      cases hk : look s.l p.data.toList with
      | none =>
        rw [ix_none hk] at A
        clear hk
        go_enter Try.func24, Try.ntmps24
        go_wp2_with (first
          | (go_at_call 21; with_reducible refine (F _).mono ?_; rintro e w' ⟨rfl, G1⟩; have GG := GG.trans G1)
          | (go_at_call 36; with_reducible refine (T _ GG).mono ?_; rintro e w' ⟨rfl, G1⟩; have GG := GG.trans G1)
          | (go_at_call 22; with_reducible refine (A _ GG).mono ?_; rintro e w' ⟨rfl, G1⟩; have GG := GG.trans G1))
        go_ret3
        exact ⟨rfl, GG⟩
      | some i =>
        obtain ⟨k, r, cap, hix, _, hlt, rfl, hcap, hcm, D0, D1, D2⟩ := sl_look h.sl hk
        have C0 := (box0 h.hd).1
        rw [hix] at A
        have hk0 : decide ((k : Int) < 0) = false := decide_eq_false (by omega)
        clear hk hix
        show Calls _ _ _ _ fun e W' => e = .returned (.tuple #[.int .i64 i.n, .bool i.d, .int .u16 0]) ∧ Gw W W'
        generalize i.d = dd at *
        generalize i.n = nn at *
        go_enter Try.func24, Try.ntmps24
        go_upto_region 9 with (first
          | (go_at_call 21; with_reducible refine (F _).mono ?_; rintro e w' ⟨rfl, G1⟩; have GG := GG.trans G1)
          | (go_at_call 36; with_reducible refine (T _ GG).mono ?_; rintro e w' ⟨rfl, G1⟩; have GG := GG.trans G1)
          | (go_at_call 22; with_reducible refine (A _ GG).mono ?_; rintro e w' ⟨rfl, G1⟩; have GG := GG.trans G1; have c0 := GG.cell C0; have d1 := GG.cell D1; have d2 := GG.cell D2))
        go_region
        go_wp2
        go_ret3
        exact ⟨rfl, GG.drew⟩
    · simp only [h0, if_false]
      have hne : (abv s.l p.data.toList == 0) = false := by simp [h0]
      generalize abv s.l p.data.toList = ee at *
      clear h0
      go_enter Try.func24, Try.ntmps24
      go_wp2_with (first
        | (go_at_call 21; with_reducible refine (F _).mono ?_; rintro e w' ⟨rfl, G1⟩; have GG := GG.trans G1)
        | (go_at_call 36; with_reducible refine (T _ GG).mono ?_; rintro e w' ⟨rfl, G1⟩; have GG := GG.trans G1))
      go_ret3
      exact ⟨rfl, GG⟩
set_option maxHeartbeats 4000000 in
theorem rmany_any {B : Nat} {W : World} {g : Nat} {sl : Value} {s : St} (h : RT B W g sl s) (hsm : Sml s.l) (p : ByteArray) (hp : p.size ≤ 140737488351232) : Calls Try.prog 28 #[.pointer (some ⟨g, 0, none⟩), .string p] W fun e W' => e = .returned (.int .u16 (manyT s.l p.data.toList)) ∧ Gw W W' := by
  have F := rfind_any h p hp
  have M := fun w (k : Gw W w) => many_any (h.on k) hsm p
  have hle := many_le s.l p.data.toList
  have hl8 := h.len
  have GG : Gw W W := Gw.refl W
  unfold manyT
  unfold fV at F
  generalize findT s.l p.data.toList = r at *
  obtain ⟨x, d, e⟩ := r
  generalize manyL s.l p.data.toList = m at *
  have w1 : IntKind.u16.wrap (m : Int) = m := by
    simp only [IntKind.wrap, IntKind.bits, IntKind.signed]
    simp
    omega
  simp only
  by_cases h0 : e = 0
  · subst h0
    simp only [if_true]
    cases d <;>
    · simp only [if_true, Bool.false_eq_true, if_false]
      go_enter Try.func28, Try.ntmps28
      go_wp2_with (first
        | (go_at_call 24; with_reducible refine F.mono ?_; rintro e w' ⟨rfl, G1⟩; have GG := GG.trans G1)
        | (go_at_call 37; with_reducible refine (M _ GG).mono ?_; rintro e w' ⟨rfl, G1⟩; have GG := GG.trans G1))
      go_ret
      exact ⟨rfl, GG⟩
  · have hne : (e == 0) = false := by simp [h0]
    simp only [h0, if_false]
    go_enter Try.func28, Try.ntmps28
    go_wp2_with (go_at_call 24; with_reducible refine F.mono ?_; rintro e w' ⟨rfl, G1⟩; have GG := GG.trans G1)
    go_ret
    exact ⟨rfl, GG⟩
end Go.Proofs.Ytlnobekjcengfaa
