/-
  What May, Split, Deep, Less of package names are to answer, as propositions; awake of stage 12's laws over them.
-/
import Derived.Test.YtlnobekjcengfaaNameS
namespace Go.Proofs.Ytlnobekjcengfaa
open Go.ChangeShapes Go.WideShapes Go.ChangeAt Go.RowKit Go.Joins
set_option linter.unusedVariables false

def SplitC : Prop := ∀ (s : ByteArray) (W : World), s.size ≤ 140737488351232 → Calls Try.prog 40 #[.string s] W fun e W' => e = .returned (.tuple #[.string (bs (spl s.data.toList).1), .string (bs (spl s.data.toList).2)]) ∧ Gw W W'
end Go.Proofs.Ytlnobekjcengfaa
