/-
  Arguments of a law, opened: slices of numbers, of truths, formulas; and how a law's end is told.
-/
import Derived.Test.YtigomnbcalpohaaClauN
import Derived.ChangeSlices
import Derived.Deep.Slices
import Derived.Deep.Grids
import Derived.Deep.Matrix
import Derived.ChangeSame
import Derived.Carry
namespace Go.Proofs.Ytigomnbcalpohaa
open Go.ChangeShapes Go.WideShapes Go.ChangeAt Go.RowKit
set_option linter.unusedVariables false

theorem laidOut : laidOutB Try.prog = true := by kernel_rfl
theorem wf_of {n : Int} (h : (Lit.int .i64 n).wf = true) : Wf n := by
  simp only [Lit.wf, IntKind.min, IntKind.max, IntKind.signed, IntKind.bits, Bool.and_eq_true, decide_eq_true_eq, if_true] at h
  unfold Wf; omega
section
variable {H : Type} {enc : TypeId × Value → H} {P : Program} {W : World}
theorem slice_ok {base : Nat} {t e : TypeId} (ht : P.underlying t = some (.slice e)) {v : Value} (h : Value.okWide P W .any base t v) :
    v = .slice none 0 0 ∨ ∃ a len cap, v = .slice (some a) len cap ∧ len ≤ cap ∧ a.spot = none ∧ a.block < W.heap.size := by
  unfold Value.okWide at h
  rw [ht] at h
  simp only [Cell.okWide, ht] at h
  unfold Cell.ok at h
  rw [ht] at h
  split at h <;> first | (exact h.elim) | skip
  all_goals first | (simp at *; done) | skip
  all_goals rename_i hu
  all_goals first
    | exact .inl rfl
    | (obtain ⟨h1, _, _, hs, row, cells, hsh, _⟩ := h
       refine .inr ⟨_, _, _, rfl, h1, hs, ?_⟩
       unfold World.shape? at hsh
       split at hsh
       · rename_i hb; exact lt_of_heap hb
       · cases hsh)
/-- A value that is a slice of numbers. -/
def IntsIn (W : World) (v : Value) : Prop := ∃ (A : Option Addr) (zs : List Int) (cap : Nat), v = .slice A zs.length cap ∧ SeqAt (Value.int .i64) W A zs ∧ zs.length ≤ 9223372036854775807 ∧ ∀ z ∈ zs, Wf z
theorem ints_open {base : Nat} {t e : TypeId} (ht : P.underlying t = some (.slice e)) (he : P.underlying e = some (.int .i64)) (hc : P.cellsOf e = 1) {v : Value} {d : DataW H} {p : List MemPlace}
    (hok : Value.okWide P W .any base t v) (h : DataW.Trod enc P W 0 (fun _ => true) true t v d p) : IntsIn W v := by
  rcases slice_ok ht hok with rfl | ⟨a, len, cap, rfl, hl, hs, hb⟩
  · exact ⟨none, [], 0, rfl, SeqAt.nil _ _, Nat.zero_le _, (fun z hz => by cases hz)⟩
  · obtain ⟨fuel, hf⟩ := h
    rcases open_ints ht he hc hf with ⟨h0, _⟩ | ⟨a', len', cap', zs, h1, _, hle, hm, hzl, _, hcell, hwf⟩
    · simp [Value.cells] at h0
    · simp only [Value.cells, List.cons.injEq, and_true] at h1
      injection h1 with h1 h2 h3
      injection h1 with h1
      subst h1; subst h2; subst h3
      rw [if_pos rfl] at hzl
      have hlen : (zs.take len).length = len := by rw [List.length_take]; omega
      unfold maxLen at hm
      refine ⟨some a, zs.take len, cap, by rw [hlen], ⟨fun i z hz => ⟨a, rfl, ?_⟩⟩, by omega, fun z hz => wf_of (hwf z (List.mem_of_mem_take hz))⟩
      have hi : i < len := by have := (List.getElem?_eq_some_iff.1 hz).1; omega
      rw [List.getElem?_take_of_lt hi] at hz
      rw [hcell i (by omega), List.getD_eq_getElem?_getD, hz]; rfl
/-- A value that is a slice of truths. -/
def BoolsIn (W : World) (v : Value) : Prop := ∃ (A : Option Addr) (zs : List Bool) (cap : Nat), v = .slice A zs.length cap ∧ SeqAt Value.bool W A zs ∧ zs.length ≤ 9223372036854775807
theorem bools_open {base : Nat} {t e : TypeId} (ht : P.underlying t = some (.slice e)) (he : P.underlying e = some .bool) (hc : P.cellsOf e = 1) {v : Value} {d : DataW H} {p : List MemPlace}
    (hok : Value.okWide P W .any base t v) (h : DataW.Trod enc P W 0 (fun _ => true) true t v d p) : BoolsIn W v := by
  rcases slice_ok ht hok with rfl | ⟨a, len, cap, rfl, hl, hs, hb⟩
  · exact ⟨none, [], 0, rfl, SeqAt.nil _ _, Nat.zero_le _⟩
  · obtain ⟨fuel, hf⟩ := h
    rcases Deep.open_bools ht he hc hf with ⟨h0, _⟩ | ⟨a', len', cap', B, h1, _, hle, hm, _, hcell⟩
    · simp [Value.cells] at h0
    · simp only [Value.cells, List.cons.injEq, and_true] at h1
      injection h1 with h1 h2 h3
      injection h1 with h1
      subst h1; subst h2; subst h3
      unfold maxLen at hm
      refine ⟨some a, (List.range len).map B, cap, by simp, ⟨fun i z hz => ⟨a, rfl, ?_⟩⟩, by simp; omega⟩
      have hi : i < len := by have := (List.getElem?_eq_some_iff.1 hz).1; simpa using this
      rw [hcell i (by omega)]
      simp [hi] at hz; rw [hz]
/-- A value that is a formula. -/
def FormIn (W : World) (v : Value) : Prop := ∃ (A : Option Addr) (f : List (List Int)) (cap : Nat), v = .slice A f.length cap ∧ FormAt W A f ∧ f.length ≤ 9223372036854775807
theorem form_open {base : Nat} {t e q : TypeId} (ht : P.underlying t = some (.slice e)) (he : P.underlying e = some (.slice q)) (hq : P.underlying q = some (.int .i64)) (ce : P.cellsOf e = 1) (cq : P.cellsOf q = 1) {v : Value} {d : DataW H} {p : List MemPlace}
    (hok : Value.okWide P W .any base t v) (h : DataW.Trod enc P W 0 (fun _ => true) true t v d p) : FormIn W v := by
  rcases slice_ok ht hok with rfl | ⟨a, len, cap, rfl, hl, hs, hb⟩
  · exact ⟨none, [], 0, rfl, ⟨fun i c hc => by simp at hc, (fun a ha => by cases ha), (fun c hc => by cases hc)⟩, Nat.zero_le _⟩
  · obtain ⟨fuel, hf⟩ := h
    rcases Deep.open_int_rows ht he hq ce cq hf with ⟨h0, _⟩ | ⟨a', len', cap', A, L, C, Z, h1, _, hle, hm, _, hr⟩
    · simp [Value.cells] at h0
    · simp only [Value.cells, List.cons.injEq, and_true] at h1
      injection h1 with h1 h2 h3
      injection h1 with h1
      subst h1; subst h2; subst h3
      unfold maxLen at hm
      refine ⟨some a, (List.range len).map fun r => (Z r).take (L r), cap, by simp, ⟨fun i c hc => ?_, fun a' ha => by injection ha with ha; subst ha; exact hb, fun c hc l hl' => ?_⟩, by simp; omega⟩
      · have hi : i < len := by have := (List.getElem?_eq_some_iff.1 hc).1; simpa using this
        simp [hi] at hc
        obtain ⟨g1, g2, g3, g4, g5, g6, g7⟩ := hr i (by omega)
        unfold maxLen at g3
        have hcl : c.length = L i := by rw [← hc, List.length_take]; omega
        refine ⟨a, A i, C i, rfl, by rw [hcl]; exact g1, ⟨fun j z hz => ?_⟩, by omega⟩
        have hj : j < L i := by have := (List.getElem?_eq_some_iff.1 hz).1; omega
        cases hA : A i with
        | none => have := g6 hA; omega
        | some b =>
          refine ⟨b, rfl, ?_⟩
          rw [← hc, List.getElem?_take_of_lt hj] at hz
          rw [(g7 b hA).2 j (by omega), List.getD_eq_getElem?_getD, hz]; rfl
      · obtain ⟨r, hr', rfl⟩ := List.mem_map.1 hc
        exact wf_of ((hr r (by have := List.mem_range.1 hr'; omega)).2.2.2.2.1 l (List.mem_of_mem_take hl'))
end
theorem post_kept {H : Type} {enc : TypeId × Value → H} {P : Program} {f : Func} {s : ChangeSpec} {apart fresh handsOn again : Bool} {W W' : World} {args : Array Value} {v : Value} {ds gs : List (DataW H)} {before pa pv : List MemPlace}
    (hW : DataW.Whole enc P f.params.toList s.vars apart W args.toList ds gs before) (hb : Below W.heap.size W W')
    (hres : ∀ (b : Nat) (sp : Nat → Bool) (hd : Bool), DataW.TrodAll enc P W' b sp hd f.resultTypes.toList (v.resultList f.resultTypes.size) (s.fn H (ds ++ gs)).results [])
    (hargs : ∀ sp : Nat → Bool, (∀ p ∈ before, sp p.block = true) → DataW.TrodAll enc P W' 0 sp true f.params.toList args.toList (s.fn H (ds ++ gs)).args pa)
    (hvars : ∀ sp : Nat → Bool, (∀ p ∈ before, sp p.block = true) → DataW.TrodVars enc P W' sp s.vars (s.fn H (ds ++ gs)).vars pv) (hps : before = pa ++ pv)
    (hok : ∀ (j : Nat) (t : TypeId) (r : Value), f.resultTypes[j]? = some t → (v.resultList f.resultTypes.size)[j]? = some r → Value.okWide P W' .any 0 t r) : s.post enc P f apart fresh handsOn again W args v W' := by
  have lt : ∀ p ∈ before, p.block < W.heap.size := fun p hp => hW.lt p hp
  subst hps
  have Rall := hargs (fun _ => true) (fun _ _ => rfl)
  have Vall := hvars (fun _ => true) (fun _ _ => rfl)
  have Rold := hargs (fun b => decide (b < W.heap.size)) (fun p hp => decide_eq_true (lt p hp))
  have Vold := hvars (fun b => decide (b < W.heap.size)) (fun p hp => decide_eq_true (lt p hp))
  have places := hW
  obtain ⟨_, _, _, _, _, cold, single⟩ := places
  exact ⟨ds, gs, pa ++ pv, [], pa, pv, hW, hres _ _ _, Rold, Vold, World.keptBut_mono (fun p hp => ⟨hp, .inr (List.mem_append.1 hp)⟩) (hb.frame (· ∈ pa ++ pv)), fun _ =>
    ⟨hok, _, _, ([] ++ pa) ++ pv, ⟨[] ++ pa, pv, trodAll_append Rall (hres _ _ _), Vall, rfl, fun b o hp => (hb.frozen (lt _ hp)).trans (cold b o hp), single⟩, fun p hp _ => hp⟩⟩
end Go.Proofs.Ytigomnbcalpohaa
