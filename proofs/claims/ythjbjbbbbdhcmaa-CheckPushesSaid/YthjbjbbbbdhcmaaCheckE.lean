/-
  A slice of truths, opened.
-/
import Derived.Test.YthjbjbbbbdhcmaaCheckA
import Derived.Deep.Grids
namespace Go.Proofs.Ythjbjbbbbdhcmaa
open Go.ChangeShapes Go.WideShapes Go.ChangeAt Go.RowKit Go.Joins
set_option linter.unusedVariables false

variable {H : Type} {enc : TypeId × Value → H} {W : World}
/-- A value that is a slice of truths. -/
def BitsIn (W : World) (v : Value) : Prop := ∃ (A : Option Addr) (l : List Bool) (cap : Nat), v = .slice A l.length cap ∧ BitsAt W A l ∧ l.length ≤ 9223372036854775807
theorem cellsBit : Try.prog.cellsOf 4 = 1 := by kernel_rfl
theorem bits_open {base : Nat} {v : Value} {d : DataW H} {p : List MemPlace}
    (hok : Value.okWide Try.prog W .any base 44 v) (h : DataW.Trod enc Try.prog W 0 (fun _ => true) true 44 v d p) : BitsIn W v := by
  obtain ⟨a0, len0, cap0, rfl⟩ := okWide_slice Try.underlying44 hok
  obtain ⟨fuel, hf⟩ := h
  rcases Deep.open_bools Try.underlying44 Try.underlying4 cellsBit hf with ⟨h0, _⟩ | ⟨a, len, cap, B, h1, _, hle, hm, _, hcell⟩
  · simp only [Value.cells, List.cons.injEq, and_true] at h0
    rw [h0]
    exact ⟨none, [], 0, rfl, (fun i z hz => by rw [List.getElem?_nil] at hz; cases hz), Nat.zero_le _⟩
  · simp only [Value.cells, List.cons.injEq, and_true] at h1
    rw [h1]
    unfold maxLen at hm
    have hl : ((List.range len).map B).length = len := by simp
    refine ⟨some a, (List.range len).map B, cap, by rw [hl], fun i z hz => ?_, by rw [hl]; omega⟩
    have hi : i < len := by have := (List.getElem?_eq_some_iff.1 hz).1; rw [hl] at this; exact this
    have hc := hcell i (by omega)
    rw [List.getElem?_map, List.getElem?_range hi] at hz
    simp only [Option.map_some, Option.some.injEq] at hz
    subst hz
    obtain ⟨g, off, spot⟩ := a
    cases spot with
    | some q =>
      exfalso
      have h2 := hcell 0 (by omega)
      exact spotted h2
    | none =>
      rw [add_eq] at hc
      exact ⟨g, off, rfl, World.block_lt_of_cell? W _ hc, hc⟩
end Go.Proofs.Ythjbjbbbbdhcmaa
