/-
  Arguments opened: a slice of bools, two ints by value.
-/
import Derived.Test.YtcndclohbpediaaFailD
import Derived.Test.YtcndclohbpediaaGenO
import Derived.Deep.Strs
namespace Go.Proofs.Ytcndclohbpediaa
open Go.ChangeShapes Go.WideShapes Go.ChangeAt Go.RowKit Go.Joins
set_option linter.unusedVariables false

section
variable {H : Type} {enc : TypeId × Value → H} {W : World}
def BoolsN (W : World) (v : Value) : Prop := ∃ l, BlA W v l
def Ints2N (W : World) (v : Value) : Prop := ∃ a b : Int, v = .agg #[.int .i64 a, .int .i64 b] ∧ (Lit.int .i64 a).wf = true ∧ (Lit.int .i64 b).wf = true
theorem cellsBool : Try.prog.cellsOf 4 = 1 := by kernel_rfl
theorem cellsInt : Try.prog.cellsOf 3 = 1 := by kernel_rfl
theorem cellsInts2 : Try.prog.cellsOf 23 = 2 := by kernel_rfl
set_option maxRecDepth 100000 in
theorem boolsn_open {base : Nat} {v : Value} {d : DataW H} {p : List MemPlace} (hok : Value.okWide Try.prog W .any base 22 v) (h : DataW.Trod enc Try.prog W 0 (fun _ => true) true 22 v d p) : BoolsN W v := by
  obtain ⟨a0, len0, cap0, rfl⟩ := okWide_slice Try.underlying22 hok
  obtain ⟨fuel, hf⟩ := h
  obtain ⟨A, l, cap, e, h1, h2, _, h3⟩ := slice_open (fun (z : Bool) cs => cs = [.bool z]) Try.underlying22 cellsBool (by decide) (fun n cs x hx => by
    obtain ⟨z, e, _⟩ := DataW.trod_bool Try.underlying4 hx
    exact ⟨by rw [e]; rfl, z, e⟩) (v := .slice a0 len0 cap0) hf
  refine ⟨l, A, cap, e, h1, h2, fun i z hz => ?_⟩
  obtain ⟨cs, rfl, _, g, off, hA, hg, hc⟩ := h3 i z hz
  have := hc 0 _ rfl
  rw [Nat.mul_one, Nat.add_zero] at this
  exact ⟨g, off, hA, this⟩
set_option maxRecDepth 100000 in
theorem ints2n_open {base : Nat} {v : Value} {d : DataW H} {p : List MemPlace} (hok : Value.okWide Try.prog W .any base 23 v) (h : DataW.Trod enc Try.prog W 0 (fun _ => true) true 23 v d p) : Ints2N W v := by
  simp only [Value.okWide, Try.underlying23] at hok
  obtain ⟨cs, rfl, h2, _⟩ := hok
  rw [cellsInts2] at h2
  obtain ⟨c0, c1, rfl⟩ := array2 h2
  obtain ⟨fuel, hf⟩ := h
  obtain ⟨xs, m, _, _, hlen, hxl, hel⟩ := DataW.trod_array Try.underlying23 hf
  have f0 := hel 0 (by decide)
  have f1 := hel 1 (by decide)
  rw [cellsInt] at f0 f1
  obtain ⟨y0, x0⟩ : ∃ y0, xs[0]? = some y0 := ⟨_, List.getElem?_eq_getElem (by omega)⟩
  obtain ⟨y1, x1⟩ : ∃ y1, xs[1]? = some y1 := ⟨_, List.getElem?_eq_getElem (by omega)⟩
  rw [x0] at f0
  rw [x1] at f1
  obtain ⟨a, e0, _, w0⟩ := DataW.trod_int Try.underlying3 f0
  obtain ⟨b, e1, _, w1⟩ := DataW.trod_int Try.underlying3 f1
  refine ⟨a, b, ?_, w0, w1⟩
  have g0 : c0 = .int .i64 a := by simpa [Value.cells] using e0
  have g1 : c1 = .int .i64 b := by simpa [Value.cells] using e1
  rw [g0, g1]
end
end Go.Proofs.Ytcndclohbpediaa
