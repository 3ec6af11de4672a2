/-
  Same of stage 10's laws: are two programs one?
-/
import Derived.Test.YthjbjbbbbdhcmaaProgA
namespace Go.Proofs.Ythjbjbbbbdhcmaa
open Go.ChangeShapes Go.WideShapes Go.ChangeAt Go.RowKit Go.Joins
set_option linter.unusedVariables false

theorem list_eq {α : Type} {l l' : List α} (hl : l.length = l'.length) (h : ∀ j, j < l.length → l[j]? = l'[j]?) : l = l' := by
  apply List.ext_getElem?
  intro j
  by_cases hj : j < l.length
  · exact h j hj
  · rw [List.getElem?_eq_none (by omega), List.getElem?_eq_none (by omega)]
theorem grown_drewN {w wr : World} (h : Grown w wr) : ∀ n, Grown w (wr.drewN n)
  | 0 => h
  | n + 1 => grown_drewN h.drew n
theorem bytes_ne {a b : ByteArray} (h : a ≠ b) : (a.toList == b.toList) = false := by
  have : a.toList ≠ b.toList := by
    intro e
    rw [ByteArray.toList_eq, ByteArray.toList_eq] at e
    exact h (bytes_inj e)
  simpa using this
end Go.Proofs.Ythjbjbbbbdhcmaa
