/-
  Parts of the proof, joined: DpllLn.
-/
import Derived.Test.YtpmdnbdmocdngaaGreatMh50

namespace Go.Proofs.YtpmdnbdmocdngaaGreat
set_option linter.unusedVariables false
set_option linter.unusedSimpArgs false

/-- The number that stands for a literal's number. -/
def rnv (n : Nat) (l : Int) : Int := (n : Int) + 1 - numb l
/-- The literal that stands for a literal. -/
def rn (n : Nat) (fl : Nat → Bool) (l : Int) : Int := if decide (0 < l) = fl (rnv n l).toNat then -(rnv n l) else rnv n l
end Go.Proofs.YtpmdnbdmocdngaaGreat
