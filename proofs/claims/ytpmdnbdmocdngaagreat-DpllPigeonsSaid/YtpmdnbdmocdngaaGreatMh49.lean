/-
  Parts of the proof, joined: DpllLw.
-/
import Derived.Test.YtpmdnbdmocdngaaGreatMh45
import Derived.Test.YtpmdnbdmocdngaaGreatMh42
import Derived.Laws.AppendOwnNone

namespace Go.Proofs.YtpmdnbdmocdngaaGreat
open Go.ChangeShapes Go.WideShapes Go.ChangeAt Go.RowKit
set_option linter.unusedVariables false
set_option linter.unusedSimpArgs false

theorem RowsOK.append {w : World} {n1 n2 : List Value} {f g : List (List Int)} (h : RowsOK w n1 f) (k : RowsOK w n2 g) : RowsOK w (n1 ++ n2) (f ++ g) := by
  refine ⟨by rw [List.length_append, List.length_append, h.1, k.1], fun i c hc => ?_⟩
  by_cases hi : i < f.length
  · rw [List.getElem?_append_left hi] at hc
    rw [List.getElem?_append_left (by rw [h.1]; exact hi)]; exact h.2 i c hc
  · rw [List.getElem?_append_right (by omega)] at hc
    rw [List.getElem?_append_right (by rw [h.1]; omega), h.1]; exact k.2 _ c hc
end Go.Proofs.YtpmdnbdmocdngaaGreat
