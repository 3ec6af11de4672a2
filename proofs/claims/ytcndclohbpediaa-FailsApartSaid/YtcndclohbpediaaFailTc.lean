/-
  The program's fails keeps the contract.
-/
import Derived.Test.YtcndclohbpediaaFailG
namespace Go.Proofs.Ytcndclohbpediaa
theorem fail_c : ∃ T : FlP, FailC T := fail_c0
end Go.Proofs.Ytcndclohbpediaa
