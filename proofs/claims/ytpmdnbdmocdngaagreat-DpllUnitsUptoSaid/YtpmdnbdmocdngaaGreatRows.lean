/-
  No cell of these rows narrows 'for every input' (looked for: loops, veiled, ifaces, maps, wideKeys, modest, calm, conditions, laid).
  DERIVED. THE GIVEN ROWS OF THIS SEAT. 5 by the template 'for every input the law returns true; each argument reads behind the call as it read before'; 0 by the template 'total and deterministic' (their statements: YtpmdnbdmocdngaaGreatTotals.lean).
  GIVEN WITH THE SEED: the statements are not yours to turn. If you find one false, say at which input.
  Laid BY PROGRAM, IN A SANDBOX (cutbox-rows.mjs): the forced cells as the released guide's own fill.sh prints them over the translation 83ae5cc9d96d4402… (all of the seat's roots in one cut). By AI agents, Wed Nov 11 2026. No macro, syntax, notation, axiom, sorry.
-/
import Derived.Test.YtpmdnbdmocdngaaGreatChecked
import GoSem.Claim
import GoSem.ClaimJoined
import GoSem.ClaimMapViews
import Derived.JoinedTies
import Derived.KernelRfl
namespace Go.Proofs.YtpmdnbdmocdngaaGreat
/- THE CELL 'sum', in the pinned program and in every row, IS THE sha256 OF THE DUMP (.gsa) THAT YtpmdnbdmocdngaaGreatProg.lean LOADS. Nothing in Lean hashes anything: it is a label: what it is worth is what the hold of that sum in a sandbox is worth. -/
noncomputable def Tryz.pinned : Pinned := { name := "ytpmdnbdmocdngaagreat", sum := "83ae5cc9d96d4402c2a886faca742256a6054a4d6d8bbfb08a1da6b5d3e607fd", checked := Tryz.checked }
namespace Rows
def none {H : Type} : Left H := { results := [], args := [] }

/-- 'crossroadslaw6.DpllSolves': WHATEVER THE INPUT: true; the input reads as it did. -/
def dpllSolvesSpec : ChangeSpec := { name := "dpllSolves", fn := fun _ => fun
  | [d1, d2, d3] => { results := [.lit (.bool true)], args := [d1, d2, d3] }
  | _ => none }
def dpllSolvesRow : OpenClaim := { program := "ytpmdnbdmocdngaagreat", sum := "83ae5cc9d96d4402c2a886faca742256a6054a4d6d8bbfb08a1da6b5d3e607fd", func := "crossroads/crossroadslaw6.DpllSolves", spec := "dpllSolves", unfollowed := true, recurses := true, plainKeys := false, apart := false }
def DpllSolvesSaid : Prop := dpllSolvesRow.holds Tryz.pinned (OpenSpec.ofChange dpllSolvesSpec)

/-- ITS FALSE NEIGHBOUR: 'it returns false'. Refute it at one input. -/
def dpllSolvesWrong : ChangeSpec := { name := "dpllSolves", fn := fun _ => fun
  | [d1, d2, d3] => { results := [.lit (.bool false)], args := [d1, d2, d3] }
  | _ => none }
def DpllSolvesWrongFalsely : Prop := dpllSolvesRow.holds Tryz.pinned (OpenSpec.ofChange dpllSolvesWrong)

/-- 'crossroadslaw6.DpllKnown': WHATEVER THE INPUT: true; the input reads as it did. -/
def dpllKnownSpec : ChangeSpec := { name := "dpllKnown", fn := fun _ => fun
  | [] => { results := [.lit (.bool true)], args := [] }
  | _ => none }
def dpllKnownRow : OpenClaim := { program := "ytpmdnbdmocdngaagreat", sum := "83ae5cc9d96d4402c2a886faca742256a6054a4d6d8bbfb08a1da6b5d3e607fd", func := "crossroads/crossroadslaw6.DpllKnown", spec := "dpllKnown", unfollowed := true, recurses := true, plainKeys := false, apart := false }
def DpllKnownSaid : Prop := dpllKnownRow.holds Tryz.pinned (OpenSpec.ofChange dpllKnownSpec)

/-- ITS FALSE NEIGHBOUR: 'it returns false'. Refute it at one input. -/
def dpllKnownWrong : ChangeSpec := { name := "dpllKnown", fn := fun _ => fun
  | [] => { results := [.lit (.bool false)], args := [] }
  | _ => none }
def DpllKnownWrongFalsely : Prop := dpllKnownRow.holds Tryz.pinned (OpenSpec.ofChange dpllKnownWrong)

/-- 'crossroadslaw6.DpllUnits': WHATEVER THE INPUT: true; the input reads as it did. -/
def dpllUnitsSpec : ChangeSpec := { name := "dpllUnits", fn := fun _ => fun
  | [d1, d2] => { results := [.lit (.bool true)], args := [d1, d2] }
  | _ => none }
def dpllUnitsRow : OpenClaim := { program := "ytpmdnbdmocdngaagreat", sum := "83ae5cc9d96d4402c2a886faca742256a6054a4d6d8bbfb08a1da6b5d3e607fd", func := "crossroads/crossroadslaw6.DpllUnits", spec := "dpllUnits", unfollowed := true, recurses := true, plainKeys := false, apart := false }
def DpllUnitsSaid : Prop := dpllUnitsRow.holds Tryz.pinned (OpenSpec.ofChange dpllUnitsSpec)

/-- ITS FALSE NEIGHBOUR: 'it returns false'. Refute it at one input. -/
def dpllUnitsWrong : ChangeSpec := { name := "dpllUnits", fn := fun _ => fun
  | [d1, d2] => { results := [.lit (.bool false)], args := [d1, d2] }
  | _ => none }
def DpllUnitsWrongFalsely : Prop := dpllUnitsRow.holds Tryz.pinned (OpenSpec.ofChange dpllUnitsWrong)

/-- 'crossroadslaw6.DpllPigeons': WHATEVER THE INPUT: true; the input reads as it did. -/
def dpllPigeonsSpec : ChangeSpec := { name := "dpllPigeons", fn := fun _ => fun
  | [d1, d2] => { results := [.lit (.bool true)], args := [d1, d2] }
  | _ => none }
def dpllPigeonsRow : OpenClaim := { program := "ytpmdnbdmocdngaagreat", sum := "83ae5cc9d96d4402c2a886faca742256a6054a4d6d8bbfb08a1da6b5d3e607fd", func := "crossroads/crossroadslaw6.DpllPigeons", spec := "dpllPigeons", unfollowed := true, recurses := true, plainKeys := false, apart := false }
def DpllPigeonsSaid : Prop := dpllPigeonsRow.holds Tryz.pinned (OpenSpec.ofChange dpllPigeonsSpec)

/-- ITS FALSE NEIGHBOUR: 'it returns false'. Refute it at one input. -/
def dpllPigeonsWrong : ChangeSpec := { name := "dpllPigeons", fn := fun _ => fun
  | [d1, d2] => { results := [.lit (.bool false)], args := [d1, d2] }
  | _ => none }
def DpllPigeonsWrongFalsely : Prop := dpllPigeonsRow.holds Tryz.pinned (OpenSpec.ofChange dpllPigeonsWrong)

/-- 'crossroadslaw7.BlastOps': WHATEVER THE INPUT: true; the input reads as it did. -/
def blastOpsSpec : ChangeSpec := { name := "blastOps", fn := fun _ => fun
  | [d1, d2, d3] => { results := [.lit (.bool true)], args := [d1, d2, d3] }
  | _ => none }
def blastOpsRow : OpenClaim := { program := "ytpmdnbdmocdngaagreat", sum := "83ae5cc9d96d4402c2a886faca742256a6054a4d6d8bbfb08a1da6b5d3e607fd", func := "crossroads/crossroadslaw7.BlastOps", spec := "blastOps", unfollowed := true, recurses := true, plainKeys := false, apart := false }
def BlastOpsSaid : Prop := blastOpsRow.holds Tryz.pinned (OpenSpec.ofChange blastOpsSpec)

/-- ITS FALSE NEIGHBOUR: 'it returns false'. Refute it at one input. -/
def blastOpsWrong : ChangeSpec := { name := "blastOps", fn := fun _ => fun
  | [d1, d2, d3] => { results := [.lit (.bool false)], args := [d1, d2, d3] }
  | _ => none }
def BlastOpsWrongFalsely : Prop := blastOpsRow.holds Tryz.pinned (OpenSpec.ofChange blastOpsWrong)

/- THE SECOND FORM. 'bulk': how many values and letters a reading holds, each counted each time it is reached (what is shared counts as often as it is met; a slice's spare places count too). A statement '..UptoSaid' is the law's where the arguments, and the package variables that the reading takes, are together of bulk at most 1048576: NARROWER than '..Said'. Prove '..Said' where nothing that the law and all that it calls make is longer than what came in: it says more and counts as full. Else prove '..UptoSaid'. A law counts once. -/
mutual
def uptoBulk {H : Type} : DataW H → Nat
  | .lit (.string bytes) => bytes.length + 1
  | .lit _ => 1
  | .nil => 1
  | .ptr d => uptoBulk d + 1
  | .slice elems spare => uptoBulkAll elems + uptoBulkAll spare + 1
  | .agg parts => uptoBulkAll parts + 1
  | .iface _ d => uptoBulk d + 1
  | .map entries => uptoBulkEntries entries + 1
  | .held _ => 1
def uptoBulkAll {H : Type} : List (DataW H) → Nat
  | [] => 0
  | d :: r => uptoBulk d + uptoBulkAll r
def uptoBulkEntries {H : Type} : List (Lit × DataW H) → Nat
  | [] => 0
  | x :: r => uptoBulkEntry x + uptoBulkEntries r
def uptoBulkEntry {H : Type} : Lit × DataW H → Nat
  | (.string bytes, d) => bytes.length + uptoBulk d + 1
  | (_, d) => uptoBulk d + 1
 end
def uptoSmall : (H : Type) → List (DataW H) → Bool := fun _ ds => decide (uptoBulkAll ds ≤ 1048576)
def OpenSpec.upto (s : _root_.Go.ChangeSpec) : _root_.Go.OpenSpec := { _root_.Go.OpenSpec.ofChange s with cond := some uptoSmall }

/-- 'crossroadslaw6.DpllSolves', WHERE WHAT IT READS IS OF BULK AT MOST 1048576: true; the input reads as it did. -/
def dpllSolvesUptoRow : OpenClaim := { program := "ytpmdnbdmocdngaagreat", sum := "83ae5cc9d96d4402c2a886faca742256a6054a4d6d8bbfb08a1da6b5d3e607fd", func := "crossroads/crossroadslaw6.DpllSolves", spec := "dpllSolves", unfollowed := true, recurses := true, plainKeys := false, apart := false, narrowed := true }
def DpllSolvesUptoSaid : Prop := dpllSolvesUptoRow.holds Tryz.pinned (OpenSpec.upto dpllSolvesSpec)

/-- 'crossroadslaw6.DpllKnown', WHERE WHAT IT READS IS OF BULK AT MOST 1048576: true; the input reads as it did. -/
def dpllKnownUptoRow : OpenClaim := { program := "ytpmdnbdmocdngaagreat", sum := "83ae5cc9d96d4402c2a886faca742256a6054a4d6d8bbfb08a1da6b5d3e607fd", func := "crossroads/crossroadslaw6.DpllKnown", spec := "dpllKnown", unfollowed := true, recurses := true, plainKeys := false, apart := false, narrowed := true }
def DpllKnownUptoSaid : Prop := dpllKnownUptoRow.holds Tryz.pinned (OpenSpec.upto dpllKnownSpec)

/-- 'crossroadslaw6.DpllUnits', WHERE WHAT IT READS IS OF BULK AT MOST 1048576: true; the input reads as it did. -/
def dpllUnitsUptoRow : OpenClaim := { program := "ytpmdnbdmocdngaagreat", sum := "83ae5cc9d96d4402c2a886faca742256a6054a4d6d8bbfb08a1da6b5d3e607fd", func := "crossroads/crossroadslaw6.DpllUnits", spec := "dpllUnits", unfollowed := true, recurses := true, plainKeys := false, apart := false, narrowed := true }
def DpllUnitsUptoSaid : Prop := dpllUnitsUptoRow.holds Tryz.pinned (OpenSpec.upto dpllUnitsSpec)

/-- 'crossroadslaw6.DpllPigeons', WHERE WHAT IT READS IS OF BULK AT MOST 1048576: true; the input reads as it did. -/
def dpllPigeonsUptoRow : OpenClaim := { program := "ytpmdnbdmocdngaagreat", sum := "83ae5cc9d96d4402c2a886faca742256a6054a4d6d8bbfb08a1da6b5d3e607fd", func := "crossroads/crossroadslaw6.DpllPigeons", spec := "dpllPigeons", unfollowed := true, recurses := true, plainKeys := false, apart := false, narrowed := true }
def DpllPigeonsUptoSaid : Prop := dpllPigeonsUptoRow.holds Tryz.pinned (OpenSpec.upto dpllPigeonsSpec)

/-- 'crossroadslaw7.BlastOps', WHERE WHAT IT READS IS OF BULK AT MOST 1048576: true; the input reads as it did. -/
def blastOpsUptoRow : OpenClaim := { program := "ytpmdnbdmocdngaagreat", sum := "83ae5cc9d96d4402c2a886faca742256a6054a4d6d8bbfb08a1da6b5d3e607fd", func := "crossroads/crossroadslaw7.BlastOps", spec := "blastOps", unfollowed := true, recurses := true, plainKeys := false, apart := false, narrowed := true }
def BlastOpsUptoSaid : Prop := blastOpsUptoRow.holds Tryz.pinned (OpenSpec.upto blastOpsSpec)

end Rows
end Go.Proofs.YtpmdnbdmocdngaaGreat
