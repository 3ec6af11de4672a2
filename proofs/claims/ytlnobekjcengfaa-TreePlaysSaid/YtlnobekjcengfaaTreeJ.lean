/-
  The tree's laws' arguments, opened: bytes, pairs of bytes, entries, deeds.
-/
import Derived.Test.YtlnobekjcengfaaTreeP
import Derived.Test.YtlnobekjcengfaaTreeZ
import Derived.Test.YtlnobekjcengfaaGenO
import Derived.Deep.Strs
namespace Go.Proofs.Ytlnobekjcengfaa
open Go.ChangeShapes Go.WideShapes Go.ChangeAt Go.RowKit Go.Joins
set_option linter.unusedVariables false

section
variable {H : Type} {enc : TypeId × Value → H} {W : World}
def BytesN (W : World) (v : Value) : Prop := ∃ (A : Option Addr) (l : List Nat) (cap : Nat), v = .slice A l.length cap ∧ l.length ≤ cap ∧ cap ≤ 9223372036854775807 ∧ ByIn W A l
def PairsN (W : World) (v : Value) : Prop := ∃ (A : Option Addr) (l : List (Nat × Nat)) (cap : Nat), v = .slice A l.length cap ∧ l.length ≤ cap ∧ cap ≤ 9223372036854775807 ∧ PairIn W A l
def EntsN (W : World) (v : Value) : Prop := ∃ es : List (List UInt8 × Bool), EntAt W v es ∧ es.length ≤ 9223372036854775807
def DeedsN (W : World) (v : Value) : Prop := ∃ ds : List Dd, DdAt W v ds ∧ ds.length ≤ 9223372036854775807
set_option maxRecDepth 100000 in
theorem bytesn_open {base : Nat} {v : Value} {d : DataW H} {p : List MemPlace} (hok : Value.okWide Try.prog W .any base 52 v) (h : DataW.Trod enc Try.prog W 0 (fun _ => true) true 52 v d p) : BytesN W v := by
  obtain ⟨a0, len0, cap0, rfl⟩ := okWide_slice Try.underlying52 hok
  obtain ⟨fuel, hf⟩ := h
  obtain ⟨A, l, cap, e, h1, h2, _, h3⟩ := slice_open (fun (z : Nat) cs => cs = [.int .u8 (z : Int)] ∧ z ≤ 255) Try.underlying52 cellsByte (by decide) (fun n cs x hx => by
    obtain ⟨z, e, _, w⟩ := DataW.trod_int Try.underlying5 hx
    have := bounds_u8 w
    exact ⟨by rw [e]; rfl, z.toNat, by rw [e]; congr 2; omega, by omega⟩) (v := .slice a0 len0 cap0) hf
  refine ⟨A, l, cap, e, h1, h2, fun i z hz => ?_⟩
  obtain ⟨cs, ⟨rfl, hz255⟩, _, g, off, hA, hg, hc⟩ := h3 i z hz
  have := hc 0 _ rfl
  rw [Nat.mul_one, Nat.add_zero] at this
  exact ⟨g, off, hA, hg, this, hz255⟩
theorem cellsPair : Try.prog.cellsOf 58 = 2 := by kernel_rfl
set_option maxRecDepth 100000 in
theorem pairsn_open {base : Nat} {v : Value} {d : DataW H} {p : List MemPlace} (hok : Value.okWide Try.prog W .any base 56 v) (h : DataW.Trod enc Try.prog W 0 (fun _ => true) true 56 v d p) : PairsN W v := by
  obtain ⟨a0, len0, cap0, rfl⟩ := okWide_slice Try.underlying56 hok
  obtain ⟨fuel, hf⟩ := h
  obtain ⟨A, l, cap, e, h1, h2, _, h3⟩ := slice_open (fun (z : Nat × Nat) cs => cs = [.int .u8 (z.1 : Int), .int .u8 (z.2 : Int)] ∧ z.1 ≤ 255 ∧ z.2 ≤ 255) Try.underlying56 cellsPair (by decide) (fun n cs x hx => by
    obtain ⟨xs, m, _, _, hlen, hxl, hel⟩ := DataW.trod_array Try.underlying58 hx
    rw [cellsPair] at hlen
    match cs, hlen with
    | [c0, c1], _ =>
      have f0 := hel 0 (by decide)
      have f1 := hel 1 (by decide)
      rw [cellsByte] at f0 f1
      have x0 : ∃ y0, xs[0]? = some y0 := ⟨_, List.getElem?_eq_getElem (by omega)⟩
      have x1 : ∃ y1, xs[1]? = some y1 := ⟨_, List.getElem?_eq_getElem (by omega)⟩
      obtain ⟨y0, x0⟩ := x0
      obtain ⟨y1, x1⟩ := x1
      rw [x0] at f0
      rw [x1] at f1
      obtain ⟨z0, e0, b0⟩ := byte_nat (c := c0) f0
      obtain ⟨z1, e1, b1⟩ := byte_nat (c := c1) f1
      exact ⟨rfl, (z0, z1), by rw [e0, e1], b0, b1⟩) (v := .slice a0 len0 cap0) hf
  refine ⟨A, l, cap, e, h1, h2, fun i z hz => ?_⟩
  obtain ⟨cs, ⟨rfl, b1, b2⟩, _, g, off, hA, hg, hc⟩ := h3 i z hz
  exact ⟨g, off, hA, hg, hc 0 _ rfl, hc 1 _ rfl, b1, b2⟩
theorem cellsEnt : Try.prog.cellsOf 44 = 3 := by kernel_rfl
theorem cellsDeed : Try.prog.cellsOf 35 = 4 := by kernel_rfl
theorem cellsStr1 : Try.prog.cellsOf 9 = 1 := by kernel_rfl
theorem cellsBool1 : Try.prog.cellsOf 4 = 1 := by kernel_rfl
theorem cellsInt1 : Try.prog.cellsOf 3 = 1 := by kernel_rfl
set_option maxRecDepth 100000 in
theorem entsn_open {base : Nat} {v : Value} {d : DataW H} {p : List MemPlace} (hok : Value.okWide Try.prog W .any base 22 v) (h : DataW.Trod enc Try.prog W 0 (fun _ => true) true 22 v d p) : EntsN W v := by
  obtain ⟨a0, len0, cap0, rfl⟩ := okWide_slice Try.underlying22 hok
  obtain ⟨fuel, hf⟩ := h
  obtain ⟨A, l, cap, e, h1, h2, _, h3⟩ := slice_open (fun (z : List UInt8 × Bool) cs => ∃ c : Int, cs = [.string (bs z.1), .bool z.2, .int .i64 c]) Try.underlying22 cellsEnt (by decide) (fun n cs x hx => by
    obtain ⟨y0, y1, y2, m, _, hlen, f0, f1, f2⟩ := Deep.trod_struct3 Try.underlying44 hx
    rw [cellsEnt] at hlen
    match cs, hlen with
    | [c0, c1, c2], _ =>
      have g0 : DataW.trod enc Try.prog W 0 (fun _ => true) true m 9 (([c0, c1, c2].drop 0).take (Try.prog.cellsOf 9)) = some y0 := f0
      have g1 : DataW.trod enc Try.prog W 0 (fun _ => true) true m 4 (([c0, c1, c2].drop 1).take (Try.prog.cellsOf 4)) = some y1 := f1
      have g2 : DataW.trod enc Try.prog W 0 (fun _ => true) true m 3 (([c0, c1, c2].drop 2).take (Try.prog.cellsOf 3)) = some y2 := f2
      rw [cellsStr1] at g0
      rw [cellsBool1] at g1
      rw [show Try.prog.cellsOf 3 = 1 by kernel_rfl] at g2
      obtain ⟨z0, e0, _⟩ := DataW.trod_string Try.underlying9 g0
      obtain ⟨z1, e1, _⟩ := DataW.trod_bool Try.underlying4 g1
      obtain ⟨z2, e2, _⟩ := DataW.trod_int Try.underlying3 g2
      simp at e0 e1 e2
      subst e0 e1 e2
      exact ⟨rfl, (z0.data.toList, z1), z2, by rw [bs_self]⟩) (v := .slice a0 len0 cap0) hf
  refine ⟨l, ⟨A, cap, e, fun i z hz => ?_⟩, by omega⟩
  obtain ⟨cs, ⟨c, rfl⟩, _, g, off, hA, hg, hc⟩ := h3 i z hz
  exact ⟨g, off, hA, hc 0 _ rfl, hc 1 _ rfl, c, hc 2 _ rfl⟩
set_option maxRecDepth 100000 in
theorem deedsn_open {base : Nat} {v : Value} {d : DataW H} {p : List MemPlace} (hok : Value.okWide Try.prog W .any base 23 v) (h : DataW.Trod enc Try.prog W 0 (fun _ => true) true 23 v d p) : DeedsN W v := by
  obtain ⟨a0, len0, cap0, rfl⟩ := okWide_slice Try.underlying23 hok
  obtain ⟨fuel, hf⟩ := h
  obtain ⟨A, l, cap, e, h1, h2, _, h3⟩ := slice_open (fun (z : Dd) cs => cs = [.int .i64 z.k, .string z.p, .string z.q, .bool z.d]) Try.underlying23 cellsDeed (by decide) (fun n cs x hx => by
    obtain ⟨y0, y1, y2, y3, m, _, hlen, f0, f1, f2, f3⟩ := trod_struct4 Try.underlying35 hx
    rw [cellsDeed] at hlen
    match cs, hlen with
    | [c0, c1, c2, c3], _ =>
      have g0 : DataW.trod enc Try.prog W 0 (fun _ => true) true m 3 (([c0, c1, c2, c3].drop 0).take (Try.prog.cellsOf 3)) = some y0 := f0
      have g1 : DataW.trod enc Try.prog W 0 (fun _ => true) true m 9 (([c0, c1, c2, c3].drop 1).take (Try.prog.cellsOf 9)) = some y1 := f1
      have g2 : DataW.trod enc Try.prog W 0 (fun _ => true) true m 9 (([c0, c1, c2, c3].drop 2).take (Try.prog.cellsOf 9)) = some y2 := f2
      have g3 : DataW.trod enc Try.prog W 0 (fun _ => true) true m 4 (([c0, c1, c2, c3].drop 3).take (Try.prog.cellsOf 4)) = some y3 := f3
      rw [cellsInt1] at g0
      rw [cellsStr1] at g1 g2
      rw [cellsBool1] at g3
      obtain ⟨z0, e0, _, _⟩ := DataW.trod_int Try.underlying3 g0
      obtain ⟨z1, e1, _⟩ := DataW.trod_string Try.underlying9 g1
      obtain ⟨z2, e2, _⟩ := DataW.trod_string Try.underlying9 g2
      obtain ⟨z3, e3, _⟩ := DataW.trod_bool Try.underlying4 g3
      simp at e0 e1 e2 e3
      subst e0 e1 e2 e3
      exact ⟨rfl, ⟨z0, z1, z2, z3⟩, rfl⟩) (v := .slice a0 len0 cap0) hf
  refine ⟨l, ⟨A, cap, e, fun i z hz => ?_⟩, by omega⟩
  obtain ⟨cs, rfl, _, g, off, hA, hg, hc⟩ := h3 i z hz
  exact ⟨g, off, hA, hc 0 _ rfl, hc 1 _ rfl, hc 2 _ rfl, hc 3 _ rfl⟩
end
end Go.Proofs.Ytlnobekjcengfaa
