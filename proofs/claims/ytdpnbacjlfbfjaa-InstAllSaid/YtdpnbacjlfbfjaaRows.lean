/-
  No cell of these rows narrows 'for every input' (looked for: loops, veiled, ifaces, maps, wideKeys, modest, calm, conditions, laid).
  DERIVED. THE GIVEN ROWS OF THIS SEAT. 4 by the template 'for every input the law returns true; each argument reads behind the call as it read before'; 0 by the template 'total and deterministic' (their statements: YtdpnbacjlfbfjaaTotals.lean).
  GIVEN WITH THE SEED: the statements are not yours to turn. If you find one false, say at which input.
  Laid BY PROGRAM, IN A SANDBOX (cutbox-rows.mjs): the forced cells as the released guide's own fill.sh prints them over the translation 5eec80997fa48b45… (all of the seat's roots in one cut). By AI agents, Wed Nov 11 2026. No macro, syntax, notation, axiom, sorry.
-/
import Derived.Test.YtdpnbacjlfbfjaaChecked
import GoSem.Claim
import GoSem.ClaimJoined
import GoSem.ClaimMapViews
import Derived.JoinedTies
import Derived.KernelRfl
namespace Go.Proofs.Ytdpnbacjlfbfjaa
/- THE CELL 'sum', in the pinned program and in every row, IS THE sha256 OF THE DUMP (.gsa) THAT YtdpnbacjlfbfjaaProg.lean LOADS. Nothing in Lean hashes anything: it is a label: what it is worth is what the hold of that sum in a sandbox is worth. -/
noncomputable def Try.pinned : Pinned := { name := "ytdpnbacjlfbfjaa", sum := "5eec80997fa48b452804616a76c68f8899f4c89a96a45e93d64f78d6c2b47807", checked := Try.checked }
namespace Rows
def none {H : Type} : Left H := { results := [], args := [] }

/-- 'crossroadslaw9.InstKnows': WHATEVER THE INPUT: true; the input reads as it did. -/
def instKnowsSpec : ChangeSpec := { name := "instKnows", fn := fun _ => fun
  | [d] => { results := [.lit (.bool true)], args := [d] }
  | _ => none }
def instKnowsRow : OpenClaim := { program := "ytdpnbacjlfbfjaa", sum := "5eec80997fa48b452804616a76c68f8899f4c89a96a45e93d64f78d6c2b47807", func := "crossroads/crossroadslaw9.InstKnows", spec := "instKnows", apart := false }
def InstKnowsSaid : Prop := instKnowsRow.holds Try.pinned (OpenSpec.ofChange instKnowsSpec)

/-- ITS FALSE NEIGHBOUR: 'it returns false'. Refute it at one input. -/
def instKnowsWrong : ChangeSpec := { name := "instKnows", fn := fun _ => fun
  | [d] => { results := [.lit (.bool false)], args := [d] }
  | _ => none }
def InstKnowsWrongFalsely : Prop := instKnowsRow.holds Try.pinned (OpenSpec.ofChange instKnowsWrong)

/-- 'crossroadslaw9.InstAll': WHATEVER THE INPUT: true; the input reads as it did. -/
def instAllSpec : ChangeSpec := { name := "instAll", fn := fun _ => fun
  | [] => { results := [.lit (.bool true)], args := [] }
  | _ => none }
def instAllRow : OpenClaim := { program := "ytdpnbacjlfbfjaa", sum := "5eec80997fa48b452804616a76c68f8899f4c89a96a45e93d64f78d6c2b47807", func := "crossroads/crossroadslaw9.InstAll", spec := "instAll", apart := false }
def InstAllSaid : Prop := instAllRow.holds Try.pinned (OpenSpec.ofChange instAllSpec)

/-- ITS FALSE NEIGHBOUR: 'it returns false'. Refute it at one input. -/
def instAllWrong : ChangeSpec := { name := "instAll", fn := fun _ => fun
  | [] => { results := [.lit (.bool false)], args := [] }
  | _ => none }
def InstAllWrongFalsely : Prop := instAllRow.holds Try.pinned (OpenSpec.ofChange instAllWrong)

/-- 'crossroadslaw9.InstNames': WHATEVER THE INPUT: true; the input reads as it did. -/
def instNamesSpec : ChangeSpec := { name := "instNames", fn := fun _ => fun
  | [d1, d2] => { results := [.lit (.bool true)], args := [d1, d2] }
  | _ => none }
def instNamesRow : OpenClaim := { program := "ytdpnbacjlfbfjaa", sum := "5eec80997fa48b452804616a76c68f8899f4c89a96a45e93d64f78d6c2b47807", func := "crossroads/crossroadslaw9.InstNames", spec := "instNames", apart := false }
def InstNamesSaid : Prop := instNamesRow.holds Try.pinned (OpenSpec.ofChange instNamesSpec)

/-- ITS FALSE NEIGHBOUR: 'it returns false'. Refute it at one input. -/
def instNamesWrong : ChangeSpec := { name := "instNames", fn := fun _ => fun
  | [d1, d2] => { results := [.lit (.bool false)], args := [d1, d2] }
  | _ => none }
def InstNamesWrongFalsely : Prop := instNamesRow.holds Try.pinned (OpenSpec.ofChange instNamesWrong)

/-- 'crossroadslaw9.InstHeights': WHATEVER THE INPUT: true; the input reads as it did. -/
def instHeightsSpec : ChangeSpec := { name := "instHeights", fn := fun _ => fun
  | [d] => { results := [.lit (.bool true)], args := [d] }
  | _ => none }
def instHeightsRow : OpenClaim := { program := "ytdpnbacjlfbfjaa", sum := "5eec80997fa48b452804616a76c68f8899f4c89a96a45e93d64f78d6c2b47807", func := "crossroads/crossroadslaw9.InstHeights", spec := "instHeights", apart := false }
def InstHeightsSaid : Prop := instHeightsRow.holds Try.pinned (OpenSpec.ofChange instHeightsSpec)

/-- ITS FALSE NEIGHBOUR: 'it returns false'. Refute it at one input. -/
def instHeightsWrong : ChangeSpec := { name := "instHeights", fn := fun _ => fun
  | [d] => { results := [.lit (.bool false)], args := [d] }
  | _ => none }
def InstHeightsWrongFalsely : Prop := instHeightsRow.holds Try.pinned (OpenSpec.ofChange instHeightsWrong)

/- THE SECOND FORM. 'bulk': how many values and letters a reading holds, each counted each time it is reached (what is shared counts as often as it is met; a slice's spare places count too). A statement '..UptoSaid' is the law's where the arguments, and the package variables that the reading takes, are together of bulk at most 1048576: NARROWER than '..Said'. Prove '..Said' where nothing that the law and all that it calls make is longer than what came in: it says more and counts as full. Else prove '..UptoSaid'. A law counts once. -/
mutual
def uptoBulk {H : Type} : DataW H → Nat
  | .lit (.string bytes) => bytes.length + 1
  | .lit _ => 1
  | .nil => 1
  | .ptr d => uptoBulk d + 1
  | .slice elems spare => uptoBulkAll elems + uptoBulkAll spare + 1
  | .agg parts => uptoBulkAll parts + 1
  | .iface _ d => uptoBulk d + 1
  | .map entries => uptoBulkEntries entries + 1
  | .held _ => 1
def uptoBulkAll {H : Type} : List (DataW H) → Nat
  | [] => 0
  | d :: r => uptoBulk d + uptoBulkAll r
def uptoBulkEntries {H : Type} : List (Lit × DataW H) → Nat
  | [] => 0
  | x :: r => uptoBulkEntry x + uptoBulkEntries r
def uptoBulkEntry {H : Type} : Lit × DataW H → Nat
  | (.string bytes, d) => bytes.length + uptoBulk d + 1
  | (_, d) => uptoBulk d + 1
 end
def uptoSmall : (H : Type) → List (DataW H) → Bool := fun _ ds => decide (uptoBulkAll ds ≤ 1048576)
def OpenSpec.upto (s : _root_.Go.ChangeSpec) : _root_.Go.OpenSpec := { _root_.Go.OpenSpec.ofChange s with cond := some uptoSmall }

/-- 'crossroadslaw9.InstKnows', WHERE WHAT IT READS IS OF BULK AT MOST 1048576: true; the input reads as it did. -/
def instKnowsUptoRow : OpenClaim := { program := "ytdpnbacjlfbfjaa", sum := "5eec80997fa48b452804616a76c68f8899f4c89a96a45e93d64f78d6c2b47807", func := "crossroads/crossroadslaw9.InstKnows", spec := "instKnows", apart := false, narrowed := true }
def InstKnowsUptoSaid : Prop := instKnowsUptoRow.holds Try.pinned (OpenSpec.upto instKnowsSpec)

/-- 'crossroadslaw9.InstAll', WHERE WHAT IT READS IS OF BULK AT MOST 1048576: true; the input reads as it did. -/
def instAllUptoRow : OpenClaim := { program := "ytdpnbacjlfbfjaa", sum := "5eec80997fa48b452804616a76c68f8899f4c89a96a45e93d64f78d6c2b47807", func := "crossroads/crossroadslaw9.InstAll", spec := "instAll", apart := false, narrowed := true }
def InstAllUptoSaid : Prop := instAllUptoRow.holds Try.pinned (OpenSpec.upto instAllSpec)

/-- 'crossroadslaw9.InstNames', WHERE WHAT IT READS IS OF BULK AT MOST 1048576: true; the input reads as it did. -/
def instNamesUptoRow : OpenClaim := { program := "ytdpnbacjlfbfjaa", sum := "5eec80997fa48b452804616a76c68f8899f4c89a96a45e93d64f78d6c2b47807", func := "crossroads/crossroadslaw9.InstNames", spec := "instNames", apart := false, narrowed := true }
def InstNamesUptoSaid : Prop := instNamesUptoRow.holds Try.pinned (OpenSpec.upto instNamesSpec)

/-- 'crossroadslaw9.InstHeights', WHERE WHAT IT READS IS OF BULK AT MOST 1048576: true; the input reads as it did. -/
def instHeightsUptoRow : OpenClaim := { program := "ytdpnbacjlfbfjaa", sum := "5eec80997fa48b452804616a76c68f8899f4c89a96a45e93d64f78d6c2b47807", func := "crossroads/crossroadslaw9.InstHeights", spec := "instHeights", apart := false, narrowed := true }
def InstHeightsUptoSaid : Prop := instHeightsUptoRow.holds Try.pinned (OpenSpec.upto instHeightsSpec)

end Rows
end Go.Proofs.Ytdpnbacjlfbfjaa
