/-
  Arguments of unit's laws, opened where they hold together at most 1048576 values.
-/
import Derived.Test.YtigomnbcalpohaaUnitL
import Derived.ProofKit
import Derived.JoinedCond
namespace Go.Proofs.Ytigomnbcalpohaa
open Go.ChangeShapes Go.WideShapes Go.ChangeAt Go.RowKit
set_option linter.unusedVariables false

theorem own : ownKnob Try.prog.godebug = none := by kernel_rfl
theorem cellsInt : Try.prog.cellsOf 3 = 1 := by kernel_rfl
theorem cellsRow : Try.prog.cellsOf 23 = 1 := by kernel_rfl
theorem bulk_pos {H : Type} (d : DataW H) : 1 ≤ Rows.uptoBulk d := by
  cases d <;> (try (rename_i l; cases l)) <;> simp [Rows.uptoBulk]
theorem bulk_len {H : Type} (l : List (DataW H)) : l.length ≤ Rows.uptoBulkAll l := by
  induction l with
  | nil => simp
  | cons d l ih => have := bulk_pos d; simp only [Rows.uptoBulkAll, List.length_cons]; omega
theorem bulk_mem {H : Type} {l : List (DataW H)} {d : DataW H} (h : d ∈ l) : Rows.uptoBulk d ≤ Rows.uptoBulkAll l := by
  induction l with
  | nil => cases h
  | cons e l ih =>
    simp only [Rows.uptoBulkAll]
    rcases List.mem_cons.1 h with rfl | h
    · omega
    · have := ih h; omega
section
variable {H : Type} {enc : TypeId × Value → H} {P : Program} {W : World}
theorem len_bulk {t e : TypeId} (ht : P.underlying t = some (.slice e)) (hc : P.cellsOf e = 1) {v : Value} {d : DataW H} {p : List MemPlace} (h : DataW.Trod enc P W 0 (fun _ => true) true t v d p) :
    ∀ A n c, v = .slice A n c → n ≤ Rows.uptoBulk d := by
  intro A n c hv
  obtain ⟨fuel, hf⟩ := h
  rcases Deep.open_slice1 ht hc hf with ⟨h0, _⟩ | ⟨a, len, cap, m, n', V, D, Pl, h1, _, hl, hm, hmm, hx, _⟩
  · subst hv
    simp [Value.cells] at h0
    omega
  · subst hv
    simp only [Value.cells, List.cons.injEq, and_true] at h1
    injection h1 with h1 h2 h3
    subst h2
    simp only [Prod.mk.injEq] at hx
    rw [hx.1]
    have := bulk_len ((List.range n).map D)
    simp only [List.length_map, List.length_range] at this
    simp only [Rows.uptoBulk]
    omega
theorem row_bulk {t e q : TypeId} (ht : P.underlying t = some (.slice e)) (he : P.underlying e = some (.slice q)) (hc : P.cellsOf e = 1) (hq : P.cellsOf q = 1) {v : Value} {d : DataW H} {p : List MemPlace} (h : DataW.Trod enc P W 0 (fun _ => true) true t v d p) :
    ∀ (a : Addr) n c, v = .slice (some a) n c → ∀ (i : Nat) B m k, i < n → W.cell? (a.add i) = some (.slice B m k) → m ≤ Rows.uptoBulk d := by
  intro a n c hv i B m k hi hcell
  obtain ⟨fuel, hf⟩ := h
  rcases Deep.open_slice1 ht hc hf with ⟨h0, _⟩ | ⟨a', len, cap, m', n', V, D, Pl, h1, _, hl, hm, hmm, hx, hr⟩
  · subst hv
    simp [Value.cells] at h0
  · subst hv
    simp only [Value.cells, List.cons.injEq, and_true] at h1
    injection h1 with h1 h2 h3
    injection h1 with h1
    subst h1; subst h2
    rw [if_pos rfl] at hmm
    obtain ⟨g1, g2⟩ := hr i (by omega)
    rw [hcell] at g1
    injection g1 with g1
    have hi2 : Rows.uptoBulk (D i) ≤ Rows.uptoBulkAll ((List.range n).map D) := bulk_mem (List.mem_map.2 ⟨i, List.mem_range.2 hi, rfl⟩)
    simp only [Prod.mk.injEq] at hx
    have hd : Rows.uptoBulkAll ((List.range n).map D) ≤ Rows.uptoBulk d := by rw [hx.1]; simp only [Rows.uptoBulk]; omega
    have := len_bulk (W := W) (enc := enc) (v := V i) (d := D i) (p := Pl i) he hq ⟨n', by rw [← g1] at g2 ⊢; simpa [Value.cells] using g2⟩ B m k g1.symm
    omega
theorem nil_form {base : Nat} {t e : TypeId} (ht : P.underlying t = some (.slice e)) {v : Value} (h : Value.okWide P W .any base t v) : ∀ n c, v = .slice none n c → n = 0 ∧ c = 0 := by
  intro n c hv
  rcases slice_ok ht h with h0 | ⟨a, len, cap, h0, _⟩
  · rw [h0] at hv; injection hv with _ h1 h2; exact ⟨h1.symm, h2.symm⟩
  · rw [h0] at hv; cases hv
/-- A formula of an argument, of a bounded size. -/
def FormB (W : World) (v : Value) : Prop := ∃ (A : Option Addr) (f : List (List Int)) (cap : Nat), v = .slice A f.length cap ∧ FormAt W A f ∧ f.length ≤ 1048576 ∧ ∀ c ∈ f, c.length ≤ 1048576
theorem form_b {base : Nat} {t e q : TypeId} (ht : P.underlying t = some (.slice e)) (he : P.underlying e = some (.slice q)) (hq : P.underlying q = some (.int .i64)) (ce : P.cellsOf e = 1) (cq : P.cellsOf q = 1) {v : Value} {d : DataW H} {p : List MemPlace}
    (hok : Value.okWide P W .any base t v) (h : DataW.Trod enc P W 0 (fun _ => true) true t v d p) (hb : Rows.uptoBulk d ≤ 1048576) : FormB W v := by
  obtain ⟨A, f, cap, hv, hf, _⟩ := form_open ht he hq ce cq hok h
  refine ⟨A, f, cap, hv, hf, Nat.le_trans (len_bulk ht ce h A _ _ hv) hb, fun c hc => ?_⟩
  obtain ⟨i, hi⟩ := List.mem_iff_getElem?.1 hc
  obtain ⟨a, B, ccap, ha, hcell, _, _⟩ := hf.get i c hi
  subst ha
  exact Nat.le_trans (row_bulk ht he ce cq h a _ _ hv i B _ _ (List.getElem?_eq_some_iff.1 hi).1 hcell) hb
/-- Numbers of an argument. -/
def IntsN (W : World) (v : Value) : Prop := ∃ (A : Option Addr) (zs : List Int) (cap : Nat), v = .slice A zs.length cap ∧ SeqAt (Value.int .i64) W A zs ∧ zs.length ≤ 9223372036854775807 ∧ (∀ z ∈ zs, Wf z) ∧ (A = none → zs.length = 0 ∧ cap = 0)
theorem ints_n {base : Nat} {t e : TypeId} (ht : P.underlying t = some (.slice e)) (he : P.underlying e = some (.int .i64)) (hc : P.cellsOf e = 1) {v : Value} {d : DataW H} {p : List MemPlace}
    (hok : Value.okWide P W .any base t v) (h : DataW.Trod enc P W 0 (fun _ => true) true t v d p) : IntsN W v := by
  obtain ⟨A, zs, cap, hv, h1, h2, h3⟩ := ints_open ht he hc hok h
  exact ⟨A, zs, cap, hv, h1, h2, h3, fun e => nil_form ht hok _ _ (by rw [hv, e])⟩
end
end Go.Proofs.Ytigomnbcalpohaa
