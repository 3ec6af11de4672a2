/-
  A set of terms' numbers in a map that the call makes: what is in it, whatever the order in which it came.
-/
import Derived.Test.YtgbmiphaabeodaaDoorTermW
import Derived.Maps.OwnSet
import Derived.Maps.Views
namespace Go.Proofs.YtgbmiphaabeodaaDoor
open Go.ChangeShapes Go.WideShapes Go.ChangeAt Go.RowKit Go.Maps
set_option linter.unusedVariables false

theorem keyedT : Maps.Keyed Tryd.prog 33 := int_keyed Tryd.underlying33
abbrev SMT : TypeId := 106
abbrev SUT : TypeId := 105
theorem zeroUnit (w : World) : (zeroValue SUT).run Tryd.prog w = .ok (.agg #[]) w := by kernel_rfl
theorem keyT {z : Int} (h : (Lit.int .i64 z).wf = true) : keyOf Tryd.prog 33 (.int .i64 z) = some (.int .i64 z) := keyOf_int_mk Tryd.underlying33 h
/-- The map at b has just the keys S. -/
def SetAt (S : List Int) (W : World) (b : Nat) : Prop := ∃ D, W.ownsMap Tryd.prog 33 (unitElem (H := Unit)) b S.length D ∧ ∀ z, (Lit.int .i64 z).wf = true → Maps.has D (.int .i64 z) = decide (z ∈ S)
theorem SetAt.same {S : List Int} {W W' : World} {b : Nat} (h : SetAt S W b) (e : W'.heap[b]? = W.heap[b]?) : SetAt S W' b := by
  obtain ⟨D, ho, hh⟩ := h
  exact ⟨D, ownsMap_same ho e, hh⟩
theorem SetAt.lt {S : List Int} {W : World} {b : Nat} (h : SetAt S W b) : b < W.heap.size := by
  obtain ⟨D, ho, hh⟩ := h
  exact ho.lt
theorem SetAt.made (W : World) : SetAt [] (W.alloc (.map #[] 0)) W.heap.size := ⟨_, World.ownsMap_made _ _ _ _, fun z _ => by simp [has_eq]⟩
theorem set_put {S : List Int} {D : DataW Unit} (hD : IsMap D) {z : Int} (hz : (Lit.int .i64 z).wf = true) (hh : ∀ z, (Lit.int .i64 z).wf = true → Maps.has D (.int .i64 z) = decide (z ∈ S)) :
    ∀ y, (Lit.int .i64 y).wf = true → Maps.has (D.put (.int .i64 z) (.agg [])) (.int .i64 y) = decide (y ∈ z :: S) := fun y hy => by
  by_cases e : y = z
  · subst e
    rw [has_put_same hD (keyedT.key (keyT hz))]
    simp
  · rw [has_put_other (fun k => e (by injection k)), hh y hy]
    simp [e]
theorem SetAt.of_put {S : List Int} {W' : World} {b : Nat} {D : DataW Unit} {z : Int} (hD : IsMap D) (hz : (Lit.int .i64 z).wf = true) (hh : ∀ z, (Lit.int .i64 z).wf = true → Maps.has D (.int .i64 z) = decide (z ∈ S))
    (ho : W'.ownsMap Tryd.prog 33 (unitElem (H := Unit)) b (S.length + 1) (D.put (.int .i64 z) (.agg []))) : SetAt (z :: S) W' b := ⟨_, ho, set_put hD hz hh⟩
/-- The world behind a key's going in. -/
noncomputable def insW (W : World) (b : Nat) (z : Int) : World := match (Instr.mapUpdate SMT (.map (some b)) (.int .i64 z) (.agg #[])).run Tryd.prog W with | .ok _ W' => W' | _ => W
theorem insW_run {S : List Int} {W : World} {b : Nat} {z : Int} (h : SetAt S W b) (hS : S.length < maxLen) (hz : (Lit.int .i64 z).wf = true) :
    (Instr.mapUpdate SMT (.map (some b)) (.int .i64 z) (.agg #[])).run Tryd.prog W = .ok () (insW W b z) ∧ SetAt (z :: S) (insW W b z) b ∧ W.mapTurned (insW W b z) b := by
  obtain ⟨D, ho, hh⟩ := h
  obtain ⟨w', hr, ho', ht⟩ := ho.store keyedT Tryd.underlying106 hS (keyT hz) (unitElem_mk (H := Unit))
  have e : insW W b z = w' := by unfold insW; rw [hr]
  rw [e]
  exact ⟨hr, SetAt.of_put ho.isMap hz hh ho', ht⟩
end Go.Proofs.YtgbmiphaabeodaaDoor
