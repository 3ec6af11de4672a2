/-
  DERIVED. GIVEN WITH THE SEED: THE CARDS: each row of YtfmicchkiegbbaaDoorRows.lean that lists a variable, with what it lists TIED to the program's text (the seventh form; the later family's looks); each row that meets fmt, with fmt's text TOLD by the authors' own Lean function (tested against real Go, not proved from fmt's source: count such statements apart). THE CARD IS WHAT COUNTS. Prove the row's statement (the work); the ties are given (YtfmicchkiegbbaaDoorTie.lean); close each card by the builder's one call (the guide's Derived/Test/ToyasCard.lean, 'card_holds'). Laid BY PROGRAM, IN A SANDBOX (cutbox-door.mjs). By AI agents, Wed Nov 11 2026. No macro, syntax, notation, axiom, sorry.
-/
import Derived.Test.YtfmicchkiegbbaaDoorRows
import GoSem.ClaimSeven
namespace Go.Proofs.YtfmicchkiegbbaaDoor
namespace Rows

/-- THE TIED CARD OF 'crossroadslaw2.TermValues'. -/
def termValuesCard : Claim7 := { stood := { row := termValuesRow, standIns := [], harness := (true, "8931156b9b9d6b510a9c68564534c3cb2954e304cbf68719e294298ff6903ca6"), looks := false }, kinds := [], alts := [], laidByText := true, laidKinds := [.data], laidTests := true, laidLooks := .later }
def TermValuesCardSaid : Prop := Claim7.holds Tryd.pinned (.plain (OpenSpec.ofChange termValuesSpec)) termValuesCard

/-- THE TIED CARD OF 'crossroadslaw2.TermKnown'. -/
def termKnownCard : Claim7 := { stood := { row := termKnownRow, standIns := [], harness := (true, "8931156b9b9d6b510a9c68564534c3cb2954e304cbf68719e294298ff6903ca6"), looks := false }, kinds := [], alts := [], laidByText := true, laidKinds := [.data], laidTests := true, laidLooks := .later }
def TermKnownCardSaid : Prop := Claim7.holds Tryd.pinned (.plain (OpenSpec.ofChange termKnownSpec)) termKnownCard

/-- THE TIED CARD OF 'crossroadslaw2.TermVars'. -/
def termVarsCard : Claim7 := { stood := { row := termVarsRow, standIns := [], harness := (true, "8931156b9b9d6b510a9c68564534c3cb2954e304cbf68719e294298ff6903ca6"), looks := false }, kinds := [], alts := [], laidByText := true, laidKinds := [.data], laidTests := true, laidLooks := .later }
def TermVarsCardSaid : Prop := Claim7.holds Tryd.pinned (.plain (OpenSpec.ofChange termVarsSpec)) termVarsCard

/-- THE TIED CARD OF 'crossroadslaw2.TermOps'. -/
def termOpsCard : Claim7 := { stood := { row := termOpsRow, standIns := [], harness := (true, "8931156b9b9d6b510a9c68564534c3cb2954e304cbf68719e294298ff6903ca6"), looks := false }, kinds := [], alts := [], laidByText := true, laidKinds := [.data], laidTests := true, laidLooks := .later }
def TermOpsCardSaid : Prop := Claim7.holds Tryd.pinned (.plain (OpenSpec.ofChange termOpsSpec)) termOpsCard

/-- THE TIED CARD OF 'crossroadslaw2.TermFolds'. -/
def termFoldsCard : Claim7 := { stood := { row := termFoldsRow, standIns := [], harness := (true, "8931156b9b9d6b510a9c68564534c3cb2954e304cbf68719e294298ff6903ca6"), looks := false }, kinds := [], alts := [], laidByText := true, laidKinds := [.data], laidTests := true, laidLooks := .later }
def TermFoldsCardSaid : Prop := Claim7.holds Tryd.pinned (.plain (OpenSpec.ofChange termFoldsSpec)) termFoldsCard

/-- THE TIED CARD OF 'crossroadslaw2.TermWidths'. -/
def termWidthsCard : Claim7 := { stood := { row := termWidthsRow, standIns := [], harness := (true, "8931156b9b9d6b510a9c68564534c3cb2954e304cbf68719e294298ff6903ca6"), looks := false }, kinds := [], alts := [], laidByText := true, laidKinds := [.data], laidTests := true, laidLooks := .later }
def TermWidthsCardSaid : Prop := Claim7.holds Tryd.pinned (.plain (OpenSpec.ofChange termWidthsSpec)) termWidthsCard

/-- THE SECOND FORM's CARD OF 'crossroadslaw2.TermValues'. -/
def termValuesUptoCard : Claim7 := { stood := { row := termValuesUptoRow, standIns := [], harness := (true, "8931156b9b9d6b510a9c68564534c3cb2954e304cbf68719e294298ff6903ca6"), looks := false }, kinds := [], alts := [], laidByText := true, laidKinds := [.data], laidTests := true, laidLooks := .later }
def TermValuesUptoCardSaid : Prop := Claim7.holds Tryd.pinned (.plain (OpenSpec.upto termValuesSpec)) termValuesUptoCard

/-- THE SECOND FORM's CARD OF 'crossroadslaw2.TermKnown'. -/
def termKnownUptoCard : Claim7 := { stood := { row := termKnownUptoRow, standIns := [], harness := (true, "8931156b9b9d6b510a9c68564534c3cb2954e304cbf68719e294298ff6903ca6"), looks := false }, kinds := [], alts := [], laidByText := true, laidKinds := [.data], laidTests := true, laidLooks := .later }
def TermKnownUptoCardSaid : Prop := Claim7.holds Tryd.pinned (.plain (OpenSpec.upto termKnownSpec)) termKnownUptoCard

/-- THE SECOND FORM's CARD OF 'crossroadslaw2.TermVars'. -/
def termVarsUptoCard : Claim7 := { stood := { row := termVarsUptoRow, standIns := [], harness := (true, "8931156b9b9d6b510a9c68564534c3cb2954e304cbf68719e294298ff6903ca6"), looks := false }, kinds := [], alts := [], laidByText := true, laidKinds := [.data], laidTests := true, laidLooks := .later }
def TermVarsUptoCardSaid : Prop := Claim7.holds Tryd.pinned (.plain (OpenSpec.upto termVarsSpec)) termVarsUptoCard

/-- THE SECOND FORM's CARD OF 'crossroadslaw2.TermOps'. -/
def termOpsUptoCard : Claim7 := { stood := { row := termOpsUptoRow, standIns := [], harness := (true, "8931156b9b9d6b510a9c68564534c3cb2954e304cbf68719e294298ff6903ca6"), looks := false }, kinds := [], alts := [], laidByText := true, laidKinds := [.data], laidTests := true, laidLooks := .later }
def TermOpsUptoCardSaid : Prop := Claim7.holds Tryd.pinned (.plain (OpenSpec.upto termOpsSpec)) termOpsUptoCard

/-- THE SECOND FORM's CARD OF 'crossroadslaw2.TermFolds'. -/
def termFoldsUptoCard : Claim7 := { stood := { row := termFoldsUptoRow, standIns := [], harness := (true, "8931156b9b9d6b510a9c68564534c3cb2954e304cbf68719e294298ff6903ca6"), looks := false }, kinds := [], alts := [], laidByText := true, laidKinds := [.data], laidTests := true, laidLooks := .later }
def TermFoldsUptoCardSaid : Prop := Claim7.holds Tryd.pinned (.plain (OpenSpec.upto termFoldsSpec)) termFoldsUptoCard

/-- THE SECOND FORM's CARD OF 'crossroadslaw2.TermWidths'. -/
def termWidthsUptoCard : Claim7 := { stood := { row := termWidthsUptoRow, standIns := [], harness := (true, "8931156b9b9d6b510a9c68564534c3cb2954e304cbf68719e294298ff6903ca6"), looks := false }, kinds := [], alts := [], laidByText := true, laidKinds := [.data], laidTests := true, laidLooks := .later }
def TermWidthsUptoCardSaid : Prop := Claim7.holds Tryd.pinned (.plain (OpenSpec.upto termWidthsSpec)) termWidthsUptoCard
end Rows
end Go.Proofs.YtfmicchkiegbbaaDoor
