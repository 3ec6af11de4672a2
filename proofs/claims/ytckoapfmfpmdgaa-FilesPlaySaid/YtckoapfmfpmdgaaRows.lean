/-
  No cell of these rows narrows 'for every input' (looked for: loops, veiled, ifaces, maps, wideKeys, modest, calm, conditions, laid).
  DERIVED. THE GIVEN ROWS OF THIS SEAT. 12 by the template 'for every input the law returns true; each argument reads behind the call as it read before'; 0 by the template 'total and deterministic' (their statements: YtckoapfmfpmdgaaTotals.lean).
  GIVEN WITH THE SEED: the statements are not yours to turn. If you find one false, say at which input.
  Laid BY PROGRAM, IN A SANDBOX (cutbox-rows.mjs): the forced cells as the released guide's own fill.sh prints them over the translation f6461e00d3c7a864… (all of the seat's roots in one cut). By AI agents, Wed Nov 11 2026. No macro, syntax, notation, axiom, sorry.
-/
import Derived.Test.YtckoapfmfpmdgaaChecked
import GoSem.Claim
import GoSem.ClaimJoined
import GoSem.ClaimMapViews
import Derived.JoinedTies
import Derived.KernelRfl
namespace Go.Proofs.Ytckoapfmfpmdgaa
/- THE CELL 'sum', in the pinned program and in every row, IS THE sha256 OF THE DUMP (.gsa) THAT YtckoapfmfpmdgaaProg.lean LOADS. Nothing in Lean hashes anything: it is a label: what it is worth is what the hold of that sum in a sandbox is worth. -/
noncomputable def Try.pinned : Pinned := { name := "ytckoapfmfpmdgaa", sum := "f6461e00d3c7a864d5b48baafeaa8f8d62b25e75da7a98c1c8a569dbdbd12f74", checked := Try.checked }
namespace Rows
def none {H : Type} : Left H := { results := [], args := [] }

/-- 'crossroadslaw13.TreePlays': WHATEVER THE INPUT: true; the input reads as it did. -/
def treePlaysSpec : ChangeSpec := { name := "treePlays", fn := fun _ => fun
  | [d1, d2, d3] => { results := [.lit (.bool true)], args := [d1, d2, d3] }
  | _ => none }
def treePlaysRow : OpenClaim := { program := "ytckoapfmfpmdgaa", sum := "f6461e00d3c7a864d5b48baafeaa8f8d62b25e75da7a98c1c8a569dbdbd12f74", func := "crossroads/crossroadslaw13.TreePlays", spec := "treePlays", inPlace := ["internal/bytealg.IndexByteString", "internal/bytealg.IndexString", "maps.clone"], named := ["internal/bytealg.MaxLen"], plainKeys := false, apart := false }
def TreePlaysSaid : Prop := treePlaysRow.holds Try.pinned (OpenSpec.ofChange treePlaysSpec)

/-- ITS FALSE NEIGHBOUR: 'it returns false'. Refute it at one input. -/
def treePlaysWrong : ChangeSpec := { name := "treePlays", fn := fun _ => fun
  | [d1, d2, d3] => { results := [.lit (.bool false)], args := [d1, d2, d3] }
  | _ => none }
def TreePlaysWrongFalsely : Prop := treePlaysRow.holds Try.pinned (OpenSpec.ofChange treePlaysWrong)

/-- 'crossroadslaw13.TreeKnown': WHATEVER THE INPUT: true; the input reads as it did. -/
def treeKnownSpec : ChangeSpec := { name := "treeKnown", fn := fun _ => fun
  | [] => { results := [.lit (.bool true)], args := [] }
  | _ => none }
def treeKnownRow : OpenClaim := { program := "ytckoapfmfpmdgaa", sum := "f6461e00d3c7a864d5b48baafeaa8f8d62b25e75da7a98c1c8a569dbdbd12f74", func := "crossroads/crossroadslaw13.TreeKnown", spec := "treeKnown", inPlace := ["internal/bytealg.IndexByteString", "internal/bytealg.IndexString"], named := ["internal/bytealg.MaxLen"], plainKeys := false, apart := false }
def TreeKnownSaid : Prop := treeKnownRow.holds Try.pinned (OpenSpec.ofChange treeKnownSpec)

/-- ITS FALSE NEIGHBOUR: 'it returns false'. Refute it at one input. -/
def treeKnownWrong : ChangeSpec := { name := "treeKnown", fn := fun _ => fun
  | [] => { results := [.lit (.bool false)], args := [] }
  | _ => none }
def TreeKnownWrongFalsely : Prop := treeKnownRow.holds Try.pinned (OpenSpec.ofChange treeKnownWrong)

/-- 'crossroadslaw13.TreeFull': WHATEVER THE INPUT: true; the input reads as it did. -/
def treeFullSpec : ChangeSpec := { name := "treeFull", fn := fun _ => fun
  | [d] => { results := [.lit (.bool true)], args := [d] }
  | _ => none }
def treeFullRow : OpenClaim := { program := "ytckoapfmfpmdgaa", sum := "f6461e00d3c7a864d5b48baafeaa8f8d62b25e75da7a98c1c8a569dbdbd12f74", func := "crossroads/crossroadslaw13.TreeFull", spec := "treeFull", inPlace := ["internal/bytealg.IndexByteString", "internal/bytealg.IndexString"], named := ["internal/bytealg.MaxLen"], plainKeys := false, apart := false }
def TreeFullSaid : Prop := treeFullRow.holds Try.pinned (OpenSpec.ofChange treeFullSpec)

/-- ITS FALSE NEIGHBOUR: 'it returns false'. Refute it at one input. -/
def treeFullWrong : ChangeSpec := { name := "treeFull", fn := fun _ => fun
  | [d] => { results := [.lit (.bool false)], args := [d] }
  | _ => none }
def TreeFullWrongFalsely : Prop := treeFullRow.holds Try.pinned (OpenSpec.ofChange treeFullWrong)

/-- 'crossroadslaw13.TreeMoves': WHATEVER THE INPUT: true; the input reads as it did. -/
def treeMovesSpec : ChangeSpec := { name := "treeMoves", fn := fun _ => fun
  | [d] => { results := [.lit (.bool true)], args := [d] }
  | _ => none }
def treeMovesRow : OpenClaim := { program := "ytckoapfmfpmdgaa", sum := "f6461e00d3c7a864d5b48baafeaa8f8d62b25e75da7a98c1c8a569dbdbd12f74", func := "crossroads/crossroadslaw13.TreeMoves", spec := "treeMoves", inPlace := ["internal/bytealg.IndexByteString", "internal/bytealg.IndexString"], named := ["internal/bytealg.MaxLen"], plainKeys := false, apart := false }
def TreeMovesSaid : Prop := treeMovesRow.holds Try.pinned (OpenSpec.ofChange treeMovesSpec)

/-- ITS FALSE NEIGHBOUR: 'it returns false'. Refute it at one input. -/
def treeMovesWrong : ChangeSpec := { name := "treeMoves", fn := fun _ => fun
  | [d] => { results := [.lit (.bool false)], args := [d] }
  | _ => none }
def TreeMovesWrongFalsely : Prop := treeMovesRow.holds Try.pinned (OpenSpec.ofChange treeMovesWrong)

/-- 'crossroadslaw13.TreeDirs': WHATEVER THE INPUT: true; the input reads as it did. -/
def treeDirsSpec : ChangeSpec := { name := "treeDirs", fn := fun _ => fun
  | [d] => { results := [.lit (.bool true)], args := [d] }
  | _ => none }
def treeDirsRow : OpenClaim := { program := "ytckoapfmfpmdgaa", sum := "f6461e00d3c7a864d5b48baafeaa8f8d62b25e75da7a98c1c8a569dbdbd12f74", func := "crossroads/crossroadslaw13.TreeDirs", spec := "treeDirs", inPlace := ["internal/bytealg.IndexByteString", "internal/bytealg.IndexString"], named := ["internal/bytealg.MaxLen"], plainKeys := false, apart := false }
def TreeDirsSaid : Prop := treeDirsRow.holds Try.pinned (OpenSpec.ofChange treeDirsSpec)

/-- ITS FALSE NEIGHBOUR: 'it returns false'. Refute it at one input. -/
def treeDirsWrong : ChangeSpec := { name := "treeDirs", fn := fun _ => fun
  | [d] => { results := [.lit (.bool false)], args := [d] }
  | _ => none }
def TreeDirsWrongFalsely : Prop := treeDirsRow.holds Try.pinned (OpenSpec.ofChange treeDirsWrong)

/-- 'crossroadslaw14.FilesPlay': WHATEVER THE INPUT: true; the input reads as it did. -/
def filesPlaySpec : ChangeSpec := { name := "filesPlay", fn := fun _ => fun
  | [d1, d2, d3] => { results := [.lit (.bool true)], args := [d1, d2, d3] }
  | _ => none }
def filesPlayRow : OpenClaim := { program := "ytckoapfmfpmdgaa", sum := "f6461e00d3c7a864d5b48baafeaa8f8d62b25e75da7a98c1c8a569dbdbd12f74", func := "crossroads/crossroadslaw14.FilesPlay", spec := "filesPlay", inPlace := ["internal/bytealg.IndexByteString", "internal/bytealg.IndexString", "maps.clone"], named := ["internal/bytealg.MaxLen"], plainKeys := false, apart := false }
def FilesPlaySaid : Prop := filesPlayRow.holds Try.pinned (OpenSpec.ofChange filesPlaySpec)

/-- ITS FALSE NEIGHBOUR: 'it returns false'. Refute it at one input. -/
def filesPlayWrong : ChangeSpec := { name := "filesPlay", fn := fun _ => fun
  | [d1, d2, d3] => { results := [.lit (.bool false)], args := [d1, d2, d3] }
  | _ => none }
def FilesPlayWrongFalsely : Prop := filesPlayRow.holds Try.pinned (OpenSpec.ofChange filesPlayWrong)

/-- 'crossroadslaw14.FilesKnown': WHATEVER THE INPUT: true; the input reads as it did. -/
def filesKnownSpec : ChangeSpec := { name := "filesKnown", fn := fun _ => fun
  | [] => { results := [.lit (.bool true)], args := [] }
  | _ => none }
def filesKnownRow : OpenClaim := { program := "ytckoapfmfpmdgaa", sum := "f6461e00d3c7a864d5b48baafeaa8f8d62b25e75da7a98c1c8a569dbdbd12f74", func := "crossroads/crossroadslaw14.FilesKnown", spec := "filesKnown", inPlace := ["internal/bytealg.IndexByteString", "internal/bytealg.IndexString", "maps.clone"], named := ["internal/bytealg.MaxLen"], plainKeys := false, apart := false }
def FilesKnownSaid : Prop := filesKnownRow.holds Try.pinned (OpenSpec.ofChange filesKnownSpec)

/-- ITS FALSE NEIGHBOUR: 'it returns false'. Refute it at one input. -/
def filesKnownWrong : ChangeSpec := { name := "filesKnown", fn := fun _ => fun
  | [] => { results := [.lit (.bool false)], args := [] }
  | _ => none }
def FilesKnownWrongFalsely : Prop := filesKnownRow.holds Try.pinned (OpenSpec.ofChange filesKnownWrong)

/-- 'crossroadslaw14.FilesWrite': WHATEVER THE INPUT: true; the input reads as it did. -/
def filesWriteSpec : ChangeSpec := { name := "filesWrite", fn := fun _ => fun
  | [d1, d2, d3] => { results := [.lit (.bool true)], args := [d1, d2, d3] }
  | _ => none }
def filesWriteRow : OpenClaim := { program := "ytckoapfmfpmdgaa", sum := "f6461e00d3c7a864d5b48baafeaa8f8d62b25e75da7a98c1c8a569dbdbd12f74", func := "crossroads/crossroadslaw14.FilesWrite", spec := "filesWrite", inPlace := ["internal/bytealg.IndexByteString", "internal/bytealg.IndexString", "maps.clone"], named := ["internal/bytealg.MaxLen"], plainKeys := false, apart := false }
def FilesWriteSaid : Prop := filesWriteRow.holds Try.pinned (OpenSpec.ofChange filesWriteSpec)

/-- ITS FALSE NEIGHBOUR: 'it returns false'. Refute it at one input. -/
def filesWriteWrong : ChangeSpec := { name := "filesWrite", fn := fun _ => fun
  | [d1, d2, d3] => { results := [.lit (.bool false)], args := [d1, d2, d3] }
  | _ => none }
def FilesWriteWrongFalsely : Prop := filesWriteRow.holds Try.pinned (OpenSpec.ofChange filesWriteWrong)

/-- 'crossroadslaw14.FilesFds': WHATEVER THE INPUT: true; the input reads as it did. -/
def filesFdsSpec : ChangeSpec := { name := "filesFds", fn := fun _ => fun
  | [d] => { results := [.lit (.bool true)], args := [d] }
  | _ => none }
def filesFdsRow : OpenClaim := { program := "ytckoapfmfpmdgaa", sum := "f6461e00d3c7a864d5b48baafeaa8f8d62b25e75da7a98c1c8a569dbdbd12f74", func := "crossroads/crossroadslaw14.FilesFds", spec := "filesFds", inPlace := ["internal/bytealg.IndexByteString", "internal/bytealg.IndexString", "maps.clone"], named := ["internal/bytealg.MaxLen"], plainKeys := false, apart := false }
def FilesFdsSaid : Prop := filesFdsRow.holds Try.pinned (OpenSpec.ofChange filesFdsSpec)

/-- ITS FALSE NEIGHBOUR: 'it returns false'. Refute it at one input. -/
def filesFdsWrong : ChangeSpec := { name := "filesFds", fn := fun _ => fun
  | [d] => { results := [.lit (.bool false)], args := [d] }
  | _ => none }
def FilesFdsWrongFalsely : Prop := filesFdsRow.holds Try.pinned (OpenSpec.ofChange filesFdsWrong)

/-- 'crossroadslaw14.FilesTrunc': WHATEVER THE INPUT: true; the input reads as it did. -/
def filesTruncSpec : ChangeSpec := { name := "filesTrunc", fn := fun _ => fun
  | [d1, d2] => { results := [.lit (.bool true)], args := [d1, d2] }
  | _ => none }
def filesTruncRow : OpenClaim := { program := "ytckoapfmfpmdgaa", sum := "f6461e00d3c7a864d5b48baafeaa8f8d62b25e75da7a98c1c8a569dbdbd12f74", func := "crossroads/crossroadslaw14.FilesTrunc", spec := "filesTrunc", inPlace := ["internal/bytealg.IndexByteString", "internal/bytealg.IndexString", "maps.clone"], named := ["internal/bytealg.MaxLen"], plainKeys := false, apart := false }
def FilesTruncSaid : Prop := filesTruncRow.holds Try.pinned (OpenSpec.ofChange filesTruncSpec)

/-- ITS FALSE NEIGHBOUR: 'it returns false'. Refute it at one input. -/
def filesTruncWrong : ChangeSpec := { name := "filesTrunc", fn := fun _ => fun
  | [d1, d2] => { results := [.lit (.bool false)], args := [d1, d2] }
  | _ => none }
def FilesTruncWrongFalsely : Prop := filesTruncRow.holds Try.pinned (OpenSpec.ofChange filesTruncWrong)

/-- 'crossroadslaw14.FilesLive': WHATEVER THE INPUT: true; the input reads as it did. -/
def filesLiveSpec : ChangeSpec := { name := "filesLive", fn := fun _ => fun
  | [d1, d2] => { results := [.lit (.bool true)], args := [d1, d2] }
  | _ => none }
def filesLiveRow : OpenClaim := { program := "ytckoapfmfpmdgaa", sum := "f6461e00d3c7a864d5b48baafeaa8f8d62b25e75da7a98c1c8a569dbdbd12f74", func := "crossroads/crossroadslaw14.FilesLive", spec := "filesLive", inPlace := ["internal/bytealg.IndexByteString", "internal/bytealg.IndexString", "maps.clone"], named := ["internal/bytealg.MaxLen"], plainKeys := false, apart := false }
def FilesLiveSaid : Prop := filesLiveRow.holds Try.pinned (OpenSpec.ofChange filesLiveSpec)

/-- ITS FALSE NEIGHBOUR: 'it returns false'. Refute it at one input. -/
def filesLiveWrong : ChangeSpec := { name := "filesLive", fn := fun _ => fun
  | [d1, d2] => { results := [.lit (.bool false)], args := [d1, d2] }
  | _ => none }
def FilesLiveWrongFalsely : Prop := filesLiveRow.holds Try.pinned (OpenSpec.ofChange filesLiveWrong)

/-- 'crossroadslaw14.FilesNew': WHATEVER THE INPUT: true; the input reads as it did. -/
def filesNewSpec : ChangeSpec := { name := "filesNew", fn := fun _ => fun
  | [d] => { results := [.lit (.bool true)], args := [d] }
  | _ => none }
def filesNewRow : OpenClaim := { program := "ytckoapfmfpmdgaa", sum := "f6461e00d3c7a864d5b48baafeaa8f8d62b25e75da7a98c1c8a569dbdbd12f74", func := "crossroads/crossroadslaw14.FilesNew", spec := "filesNew", inPlace := ["internal/bytealg.IndexByteString", "internal/bytealg.IndexString", "maps.clone"], named := ["internal/bytealg.MaxLen"], plainKeys := false, apart := false }
def FilesNewSaid : Prop := filesNewRow.holds Try.pinned (OpenSpec.ofChange filesNewSpec)

/-- ITS FALSE NEIGHBOUR: 'it returns false'. Refute it at one input. -/
def filesNewWrong : ChangeSpec := { name := "filesNew", fn := fun _ => fun
  | [d] => { results := [.lit (.bool false)], args := [d] }
  | _ => none }
def FilesNewWrongFalsely : Prop := filesNewRow.holds Try.pinned (OpenSpec.ofChange filesNewWrong)

/- THE SECOND FORM. 'bulk': how many values and letters a reading holds, each counted each time it is reached (what is shared counts as often as it is met; a slice's spare places count too). A statement '..UptoSaid' is the law's where the arguments, and the package variables that the reading takes, are together of bulk at most 1048576: NARROWER than '..Said'. Prove '..Said' where nothing that the law and all that it calls make is longer than what came in: it says more and counts as full. Else prove '..UptoSaid'. A law counts once. -/
mutual
def uptoBulk {H : Type} : DataW H → Nat
  | .lit (.string bytes) => bytes.length + 1
  | .lit _ => 1
  | .nil => 1
  | .ptr d => uptoBulk d + 1
  | .slice elems spare => uptoBulkAll elems + uptoBulkAll spare + 1
  | .agg parts => uptoBulkAll parts + 1
  | .iface _ d => uptoBulk d + 1
  | .map entries => uptoBulkEntries entries + 1
  | .held _ => 1
def uptoBulkAll {H : Type} : List (DataW H) → Nat
  | [] => 0
  | d :: r => uptoBulk d + uptoBulkAll r
def uptoBulkEntries {H : Type} : List (Lit × DataW H) → Nat
  | [] => 0
  | x :: r => uptoBulkEntry x + uptoBulkEntries r
def uptoBulkEntry {H : Type} : Lit × DataW H → Nat
  | (.string bytes, d) => bytes.length + uptoBulk d + 1
  | (_, d) => uptoBulk d + 1
 end
def uptoSmall : (H : Type) → List (DataW H) → Bool := fun _ ds => decide (uptoBulkAll ds ≤ 1048576)
def OpenSpec.upto (s : _root_.Go.ChangeSpec) : _root_.Go.OpenSpec := { _root_.Go.OpenSpec.ofChange s with cond := some uptoSmall }

/-- 'crossroadslaw13.TreePlays', WHERE WHAT IT READS IS OF BULK AT MOST 1048576: true; the input reads as it did. -/
def treePlaysUptoRow : OpenClaim := { program := "ytckoapfmfpmdgaa", sum := "f6461e00d3c7a864d5b48baafeaa8f8d62b25e75da7a98c1c8a569dbdbd12f74", func := "crossroads/crossroadslaw13.TreePlays", spec := "treePlays", inPlace := ["internal/bytealg.IndexByteString", "internal/bytealg.IndexString", "maps.clone"], named := ["internal/bytealg.MaxLen"], plainKeys := false, apart := false, narrowed := true }
def TreePlaysUptoSaid : Prop := treePlaysUptoRow.holds Try.pinned (OpenSpec.upto treePlaysSpec)

/-- 'crossroadslaw13.TreeKnown', WHERE WHAT IT READS IS OF BULK AT MOST 1048576: true; the input reads as it did. -/
def treeKnownUptoRow : OpenClaim := { program := "ytckoapfmfpmdgaa", sum := "f6461e00d3c7a864d5b48baafeaa8f8d62b25e75da7a98c1c8a569dbdbd12f74", func := "crossroads/crossroadslaw13.TreeKnown", spec := "treeKnown", inPlace := ["internal/bytealg.IndexByteString", "internal/bytealg.IndexString"], named := ["internal/bytealg.MaxLen"], plainKeys := false, apart := false, narrowed := true }
def TreeKnownUptoSaid : Prop := treeKnownUptoRow.holds Try.pinned (OpenSpec.upto treeKnownSpec)

/-- 'crossroadslaw13.TreeFull', WHERE WHAT IT READS IS OF BULK AT MOST 1048576: true; the input reads as it did. -/
def treeFullUptoRow : OpenClaim := { program := "ytckoapfmfpmdgaa", sum := "f6461e00d3c7a864d5b48baafeaa8f8d62b25e75da7a98c1c8a569dbdbd12f74", func := "crossroads/crossroadslaw13.TreeFull", spec := "treeFull", inPlace := ["internal/bytealg.IndexByteString", "internal/bytealg.IndexString"], named := ["internal/bytealg.MaxLen"], plainKeys := false, apart := false, narrowed := true }
def TreeFullUptoSaid : Prop := treeFullUptoRow.holds Try.pinned (OpenSpec.upto treeFullSpec)

/-- 'crossroadslaw13.TreeMoves', WHERE WHAT IT READS IS OF BULK AT MOST 1048576: true; the input reads as it did. -/
def treeMovesUptoRow : OpenClaim := { program := "ytckoapfmfpmdgaa", sum := "f6461e00d3c7a864d5b48baafeaa8f8d62b25e75da7a98c1c8a569dbdbd12f74", func := "crossroads/crossroadslaw13.TreeMoves", spec := "treeMoves", inPlace := ["internal/bytealg.IndexByteString", "internal/bytealg.IndexString"], named := ["internal/bytealg.MaxLen"], plainKeys := false, apart := false, narrowed := true }
def TreeMovesUptoSaid : Prop := treeMovesUptoRow.holds Try.pinned (OpenSpec.upto treeMovesSpec)

/-- 'crossroadslaw13.TreeDirs', WHERE WHAT IT READS IS OF BULK AT MOST 1048576: true; the input reads as it did. -/
def treeDirsUptoRow : OpenClaim := { program := "ytckoapfmfpmdgaa", sum := "f6461e00d3c7a864d5b48baafeaa8f8d62b25e75da7a98c1c8a569dbdbd12f74", func := "crossroads/crossroadslaw13.TreeDirs", spec := "treeDirs", inPlace := ["internal/bytealg.IndexByteString", "internal/bytealg.IndexString"], named := ["internal/bytealg.MaxLen"], plainKeys := false, apart := false, narrowed := true }
def TreeDirsUptoSaid : Prop := treeDirsUptoRow.holds Try.pinned (OpenSpec.upto treeDirsSpec)

/-- 'crossroadslaw14.FilesPlay', WHERE WHAT IT READS IS OF BULK AT MOST 1048576: true; the input reads as it did. -/
def filesPlayUptoRow : OpenClaim := { program := "ytckoapfmfpmdgaa", sum := "f6461e00d3c7a864d5b48baafeaa8f8d62b25e75da7a98c1c8a569dbdbd12f74", func := "crossroads/crossroadslaw14.FilesPlay", spec := "filesPlay", inPlace := ["internal/bytealg.IndexByteString", "internal/bytealg.IndexString", "maps.clone"], named := ["internal/bytealg.MaxLen"], plainKeys := false, apart := false, narrowed := true }
def FilesPlayUptoSaid : Prop := filesPlayUptoRow.holds Try.pinned (OpenSpec.upto filesPlaySpec)

/-- 'crossroadslaw14.FilesKnown', WHERE WHAT IT READS IS OF BULK AT MOST 1048576: true; the input reads as it did. -/
def filesKnownUptoRow : OpenClaim := { program := "ytckoapfmfpmdgaa", sum := "f6461e00d3c7a864d5b48baafeaa8f8d62b25e75da7a98c1c8a569dbdbd12f74", func := "crossroads/crossroadslaw14.FilesKnown", spec := "filesKnown", inPlace := ["internal/bytealg.IndexByteString", "internal/bytealg.IndexString", "maps.clone"], named := ["internal/bytealg.MaxLen"], plainKeys := false, apart := false, narrowed := true }
def FilesKnownUptoSaid : Prop := filesKnownUptoRow.holds Try.pinned (OpenSpec.upto filesKnownSpec)

/-- 'crossroadslaw14.FilesWrite', WHERE WHAT IT READS IS OF BULK AT MOST 1048576: true; the input reads as it did. -/
def filesWriteUptoRow : OpenClaim := { program := "ytckoapfmfpmdgaa", sum := "f6461e00d3c7a864d5b48baafeaa8f8d62b25e75da7a98c1c8a569dbdbd12f74", func := "crossroads/crossroadslaw14.FilesWrite", spec := "filesWrite", inPlace := ["internal/bytealg.IndexByteString", "internal/bytealg.IndexString", "maps.clone"], named := ["internal/bytealg.MaxLen"], plainKeys := false, apart := false, narrowed := true }
def FilesWriteUptoSaid : Prop := filesWriteUptoRow.holds Try.pinned (OpenSpec.upto filesWriteSpec)

/-- 'crossroadslaw14.FilesFds', WHERE WHAT IT READS IS OF BULK AT MOST 1048576: true; the input reads as it did. -/
def filesFdsUptoRow : OpenClaim := { program := "ytckoapfmfpmdgaa", sum := "f6461e00d3c7a864d5b48baafeaa8f8d62b25e75da7a98c1c8a569dbdbd12f74", func := "crossroads/crossroadslaw14.FilesFds", spec := "filesFds", inPlace := ["internal/bytealg.IndexByteString", "internal/bytealg.IndexString", "maps.clone"], named := ["internal/bytealg.MaxLen"], plainKeys := false, apart := false, narrowed := true }
def FilesFdsUptoSaid : Prop := filesFdsUptoRow.holds Try.pinned (OpenSpec.upto filesFdsSpec)

/-- 'crossroadslaw14.FilesTrunc', WHERE WHAT IT READS IS OF BULK AT MOST 1048576: true; the input reads as it did. -/
def filesTruncUptoRow : OpenClaim := { program := "ytckoapfmfpmdgaa", sum := "f6461e00d3c7a864d5b48baafeaa8f8d62b25e75da7a98c1c8a569dbdbd12f74", func := "crossroads/crossroadslaw14.FilesTrunc", spec := "filesTrunc", inPlace := ["internal/bytealg.IndexByteString", "internal/bytealg.IndexString", "maps.clone"], named := ["internal/bytealg.MaxLen"], plainKeys := false, apart := false, narrowed := true }
def FilesTruncUptoSaid : Prop := filesTruncUptoRow.holds Try.pinned (OpenSpec.upto filesTruncSpec)

/-- 'crossroadslaw14.FilesLive', WHERE WHAT IT READS IS OF BULK AT MOST 1048576: true; the input reads as it did. -/
def filesLiveUptoRow : OpenClaim := { program := "ytckoapfmfpmdgaa", sum := "f6461e00d3c7a864d5b48baafeaa8f8d62b25e75da7a98c1c8a569dbdbd12f74", func := "crossroads/crossroadslaw14.FilesLive", spec := "filesLive", inPlace := ["internal/bytealg.IndexByteString", "internal/bytealg.IndexString", "maps.clone"], named := ["internal/bytealg.MaxLen"], plainKeys := false, apart := false, narrowed := true }
def FilesLiveUptoSaid : Prop := filesLiveUptoRow.holds Try.pinned (OpenSpec.upto filesLiveSpec)

/-- 'crossroadslaw14.FilesNew', WHERE WHAT IT READS IS OF BULK AT MOST 1048576: true; the input reads as it did. -/
def filesNewUptoRow : OpenClaim := { program := "ytckoapfmfpmdgaa", sum := "f6461e00d3c7a864d5b48baafeaa8f8d62b25e75da7a98c1c8a569dbdbd12f74", func := "crossroads/crossroadslaw14.FilesNew", spec := "filesNew", inPlace := ["internal/bytealg.IndexByteString", "internal/bytealg.IndexString", "maps.clone"], named := ["internal/bytealg.MaxLen"], plainKeys := false, apart := false, narrowed := true }
def FilesNewUptoSaid : Prop := filesNewUptoRow.holds Try.pinned (OpenSpec.upto filesNewSpec)

end Rows
end Go.Proofs.Ytckoapfmfpmdgaa
