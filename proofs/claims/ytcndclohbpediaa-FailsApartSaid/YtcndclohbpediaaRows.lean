/-
  No cell of these rows narrows 'for every input' (looked for: loops, veiled, ifaces, maps, wideKeys, modest, calm, conditions, laid).
  DERIVED. THE GIVEN ROWS OF THIS SEAT. 3 by the template 'for every input the law returns true; each argument reads behind the call as it read before'; 0 by the template 'total and deterministic' (their statements: YtcndclohbpediaaTotals.lean).
  GIVEN WITH THE SEED: the statements are not yours to turn. If you find one false, say at which input.
  Laid BY PROGRAM, IN A SANDBOX (cutbox-rows.mjs): the forced cells as the released guide's own fill.sh prints them over the translation df7fcac255fc04e7… (all of the seat's roots in one cut). By AI agents, Wed Nov 11 2026. No macro, syntax, notation, axiom, sorry.
-/
import Derived.Test.YtcndclohbpediaaChecked
import GoSem.Claim
import GoSem.ClaimJoined
import GoSem.ClaimMapViews
import Derived.JoinedTies
import Derived.KernelRfl
namespace Go.Proofs.Ytcndclohbpediaa
/- THE CELL 'sum', in the pinned program and in every row, IS THE sha256 OF THE DUMP (.gsa) THAT YtcndclohbpediaaProg.lean LOADS. Nothing in Lean hashes anything: it is a label: what it is worth is what the hold of that sum in a sandbox is worth. -/
noncomputable def Try.pinned : Pinned := { name := "ytcndclohbpediaa", sum := "df7fcac255fc04e7a72e000877be1ce310a4b55a4a6c5152e9de6d868f735b27", checked := Try.checked }
namespace Rows
def none {H : Type} : Left H := { results := [], args := [] }

/-- 'crossroadslaw15.FailsGo': WHATEVER THE INPUT: true; the input reads as it did. -/
def failsGoSpec : ChangeSpec := { name := "failsGo", fn := fun _ => fun
  | [d1, d2, d3] => { results := [.lit (.bool true)], args := [d1, d2, d3] }
  | _ => none }
def failsGoRow : OpenClaim := { program := "ytcndclohbpediaa", sum := "df7fcac255fc04e7a72e000877be1ce310a4b55a4a6c5152e9de6d868f735b27", func := "crossroads/crossroadslaw15.FailsGo", spec := "failsGo", apart := false }
def FailsGoSaid : Prop := failsGoRow.holds Try.pinned (OpenSpec.ofChange failsGoSpec)

/-- ITS FALSE NEIGHBOUR: 'it returns false'. Refute it at one input. -/
def failsGoWrong : ChangeSpec := { name := "failsGo", fn := fun _ => fun
  | [d1, d2, d3] => { results := [.lit (.bool false)], args := [d1, d2, d3] }
  | _ => none }
def FailsGoWrongFalsely : Prop := failsGoRow.holds Try.pinned (OpenSpec.ofChange failsGoWrong)

/-- 'crossroadslaw15.FailsKnown': WHATEVER THE INPUT: true; the input reads as it did. -/
def failsKnownSpec : ChangeSpec := { name := "failsKnown", fn := fun _ => fun
  | [] => { results := [.lit (.bool true)], args := [] }
  | _ => none }
def failsKnownRow : OpenClaim := { program := "ytcndclohbpediaa", sum := "df7fcac255fc04e7a72e000877be1ce310a4b55a4a6c5152e9de6d868f735b27", func := "crossroads/crossroadslaw15.FailsKnown", spec := "failsKnown", apart := false }
def FailsKnownSaid : Prop := failsKnownRow.holds Try.pinned (OpenSpec.ofChange failsKnownSpec)

/-- ITS FALSE NEIGHBOUR: 'it returns false'. Refute it at one input. -/
def failsKnownWrong : ChangeSpec := { name := "failsKnown", fn := fun _ => fun
  | [] => { results := [.lit (.bool false)], args := [] }
  | _ => none }
def FailsKnownWrongFalsely : Prop := failsKnownRow.holds Try.pinned (OpenSpec.ofChange failsKnownWrong)

/-- 'crossroadslaw15.FailsApart': WHATEVER THE INPUT: true; the input reads as it did. -/
def failsApartSpec : ChangeSpec := { name := "failsApart", fn := fun _ => fun
  | [d1, d2, d3] => { results := [.lit (.bool true)], args := [d1, d2, d3] }
  | _ => none }
def failsApartRow : OpenClaim := { program := "ytcndclohbpediaa", sum := "df7fcac255fc04e7a72e000877be1ce310a4b55a4a6c5152e9de6d868f735b27", func := "crossroads/crossroadslaw15.FailsApart", spec := "failsApart", apart := false }
def FailsApartSaid : Prop := failsApartRow.holds Try.pinned (OpenSpec.ofChange failsApartSpec)

/-- ITS FALSE NEIGHBOUR: 'it returns false'. Refute it at one input. -/
def failsApartWrong : ChangeSpec := { name := "failsApart", fn := fun _ => fun
  | [d1, d2, d3] => { results := [.lit (.bool false)], args := [d1, d2, d3] }
  | _ => none }
def FailsApartWrongFalsely : Prop := failsApartRow.holds Try.pinned (OpenSpec.ofChange failsApartWrong)

/- THE SECOND FORM. 'bulk': how many values and letters a reading holds, each counted each time it is reached (what is shared counts as often as it is met; a slice's spare places count too). A statement '..UptoSaid' is the law's where the arguments, and the package variables that the reading takes, are together of bulk at most 1048576: NARROWER than '..Said'. Prove '..Said' where nothing that the law and all that it calls make is longer than what came in: it says more and counts as full. Else prove '..UptoSaid'. A law counts once. -/
mutual
def uptoBulk {H : Type} : DataW H → Nat
  | .lit (.string bytes) => bytes.length + 1
  | .lit _ => 1
  | .nil => 1
  | .ptr d => uptoBulk d + 1
  | .slice elems spare => uptoBulkAll elems + uptoBulkAll spare + 1
  | .agg parts => uptoBulkAll parts + 1
  | .iface _ d => uptoBulk d + 1
  | .map entries => uptoBulkEntries entries + 1
  | .held _ => 1
def uptoBulkAll {H : Type} : List (DataW H) → Nat
  | [] => 0
  | d :: r => uptoBulk d + uptoBulkAll r
def uptoBulkEntries {H : Type} : List (Lit × DataW H) → Nat
  | [] => 0
  | x :: r => uptoBulkEntry x + uptoBulkEntries r
def uptoBulkEntry {H : Type} : Lit × DataW H → Nat
  | (.string bytes, d) => bytes.length + uptoBulk d + 1
  | (_, d) => uptoBulk d + 1
 end
def uptoSmall : (H : Type) → List (DataW H) → Bool := fun _ ds => decide (uptoBulkAll ds ≤ 1048576)
def OpenSpec.upto (s : _root_.Go.ChangeSpec) : _root_.Go.OpenSpec := { _root_.Go.OpenSpec.ofChange s with cond := some uptoSmall }

/-- 'crossroadslaw15.FailsGo', WHERE WHAT IT READS IS OF BULK AT MOST 1048576: true; the input reads as it did. -/
def failsGoUptoRow : OpenClaim := { program := "ytcndclohbpediaa", sum := "df7fcac255fc04e7a72e000877be1ce310a4b55a4a6c5152e9de6d868f735b27", func := "crossroads/crossroadslaw15.FailsGo", spec := "failsGo", apart := false, narrowed := true }
def FailsGoUptoSaid : Prop := failsGoUptoRow.holds Try.pinned (OpenSpec.upto failsGoSpec)

/-- 'crossroadslaw15.FailsKnown', WHERE WHAT IT READS IS OF BULK AT MOST 1048576: true; the input reads as it did. -/
def failsKnownUptoRow : OpenClaim := { program := "ytcndclohbpediaa", sum := "df7fcac255fc04e7a72e000877be1ce310a4b55a4a6c5152e9de6d868f735b27", func := "crossroads/crossroadslaw15.FailsKnown", spec := "failsKnown", apart := false, narrowed := true }
def FailsKnownUptoSaid : Prop := failsKnownUptoRow.holds Try.pinned (OpenSpec.upto failsKnownSpec)

/-- 'crossroadslaw15.FailsApart', WHERE WHAT IT READS IS OF BULK AT MOST 1048576: true; the input reads as it did. -/
def failsApartUptoRow : OpenClaim := { program := "ytcndclohbpediaa", sum := "df7fcac255fc04e7a72e000877be1ce310a4b55a4a6c5152e9de6d868f735b27", func := "crossroads/crossroadslaw15.FailsApart", spec := "failsApart", apart := false, narrowed := true }
def FailsApartUptoSaid : Prop := failsApartUptoRow.holds Try.pinned (OpenSpec.upto failsApartSpec)

end Rows
end Go.Proofs.Ytcndclohbpediaa
