/-
  DERIVED. GIVEN WITH THE SEED: THE CARDS: each row of YtchbdnifcckloaaDoorRows.lean that lists a variable, with what it lists TIED to the program's text (the seventh form; the later family's looks); each row that meets fmt, with fmt's text TOLD by the authors' own Lean function (tested against real Go, not proved from fmt's source: count such statements apart). THE CARD IS WHAT COUNTS. Prove the row's statement (the work); the ties are given (YtchbdnifcckloaaDoorTie.lean); close each card by the builder's one call (the guide's Derived/Test/ToyasCard.lean, 'card_holds'). Laid BY PROGRAM, IN A SANDBOX (cutbox-door.mjs). By AI agents, Wed Nov 11 2026. No macro, syntax, notation, axiom, sorry.
-/
import Derived.Test.YtchbdnifcckloaaDoorRows
import GoSem.ClaimSeven
namespace Go.Proofs.YtchbdnifcckloaaDoor
namespace Rows

/-- THE TIED CARD OF 'crossroadslaw2.TermValues'. -/
def termValuesCard : Claim7 := { stood := { row := termValuesRow, standIns := [], harness := (true, "c658863891ba1bd35bca1be107a59d888724972e2788b0b9a8794d53fe4e8ee1"), looks := false }, kinds := [], alts := [], laidByText := true, laidKinds := [.data], laidTests := true, laidLooks := .later }
def TermValuesCardSaid : Prop := Claim7.holds Tryd.pinned (.plain (OpenSpec.ofChange termValuesSpec)) termValuesCard

/-- THE TIED CARD OF 'crossroadslaw2.TermVars'. -/
def termVarsCard : Claim7 := { stood := { row := termVarsRow, standIns := [], harness := (true, "c658863891ba1bd35bca1be107a59d888724972e2788b0b9a8794d53fe4e8ee1"), looks := false }, kinds := [], alts := [], laidByText := true, laidKinds := [.data], laidTests := true, laidLooks := .later }
def TermVarsCardSaid : Prop := Claim7.holds Tryd.pinned (.plain (OpenSpec.ofChange termVarsSpec)) termVarsCard

/-- THE TIED CARD OF 'crossroadslaw3.FixPuts'. -/
def fixPutsCard : Claim7 := { stood := { row := fixPutsRow, standIns := [], harness := (true, "c658863891ba1bd35bca1be107a59d888724972e2788b0b9a8794d53fe4e8ee1"), looks := false }, kinds := [], alts := [], laidByText := true, laidKinds := [.data], laidTests := true, laidLooks := .later }
def FixPutsCardSaid : Prop := Claim7.holds Tryd.pinned (.plain (OpenSpec.ofChange fixPutsSpec)) fixPutsCard

/-- THE TIED CARD OF 'crossroadslaw3.FixKnown'. -/
def fixKnownCard : Claim7 := { stood := { row := fixKnownRow, standIns := [], harness := (true, "c658863891ba1bd35bca1be107a59d888724972e2788b0b9a8794d53fe4e8ee1"), looks := false }, kinds := [], alts := [], laidByText := true, laidKinds := [.data], laidTests := true, laidLooks := .later }
def FixKnownCardSaid : Prop := Claim7.holds Tryd.pinned (.plain (OpenSpec.ofChange fixKnownSpec)) fixKnownCard

/-- THE TIED CARD OF 'crossroadslaw3.FixParts'. -/
def fixPartsCard : Claim7 := { stood := { row := fixPartsRow, standIns := [], harness := (true, "c658863891ba1bd35bca1be107a59d888724972e2788b0b9a8794d53fe4e8ee1"), looks := false }, kinds := [], alts := [], laidByText := true, laidKinds := [.data], laidTests := true, laidLooks := .later }
def FixPartsCardSaid : Prop := Claim7.holds Tryd.pinned (.plain (OpenSpec.ofChange fixPartsSpec)) fixPartsCard

/-- THE TIED CARD OF 'crossroadslaw3.FixWhole'. -/
def fixWholeCard : Claim7 := { stood := { row := fixWholeRow, standIns := [], harness := (true, "c658863891ba1bd35bca1be107a59d888724972e2788b0b9a8794d53fe4e8ee1"), looks := false }, kinds := [], alts := [], laidByText := true, laidKinds := [.data], laidTests := true, laidLooks := .later }
def FixWholeCardSaid : Prop := Claim7.holds Tryd.pinned (.plain (OpenSpec.ofChange fixWholeSpec)) fixWholeCard

/-- THE TIED CARD OF 'crossroadslaw3.FixMany'. -/
def fixManyCard : Claim7 := { stood := { row := fixManyRow, standIns := [], harness := (true, "c658863891ba1bd35bca1be107a59d888724972e2788b0b9a8794d53fe4e8ee1"), looks := false }, kinds := [], alts := [], laidByText := true, laidKinds := [.data], laidTests := true, laidLooks := .later }
def FixManyCardSaid : Prop := Claim7.holds Tryd.pinned (.plain (OpenSpec.ofChange fixManySpec)) fixManyCard

/-- THE SECOND FORM's CARD OF 'crossroadslaw2.TermValues'. -/
def termValuesUptoCard : Claim7 := { stood := { row := termValuesUptoRow, standIns := [], harness := (true, "c658863891ba1bd35bca1be107a59d888724972e2788b0b9a8794d53fe4e8ee1"), looks := false }, kinds := [], alts := [], laidByText := true, laidKinds := [.data], laidTests := true, laidLooks := .later }
def TermValuesUptoCardSaid : Prop := Claim7.holds Tryd.pinned (.plain (OpenSpec.upto termValuesSpec)) termValuesUptoCard

/-- THE SECOND FORM's CARD OF 'crossroadslaw2.TermVars'. -/
def termVarsUptoCard : Claim7 := { stood := { row := termVarsUptoRow, standIns := [], harness := (true, "c658863891ba1bd35bca1be107a59d888724972e2788b0b9a8794d53fe4e8ee1"), looks := false }, kinds := [], alts := [], laidByText := true, laidKinds := [.data], laidTests := true, laidLooks := .later }
def TermVarsUptoCardSaid : Prop := Claim7.holds Tryd.pinned (.plain (OpenSpec.upto termVarsSpec)) termVarsUptoCard

/-- THE SECOND FORM's CARD OF 'crossroadslaw3.FixPuts'. -/
def fixPutsUptoCard : Claim7 := { stood := { row := fixPutsUptoRow, standIns := [], harness := (true, "c658863891ba1bd35bca1be107a59d888724972e2788b0b9a8794d53fe4e8ee1"), looks := false }, kinds := [], alts := [], laidByText := true, laidKinds := [.data], laidTests := true, laidLooks := .later }
def FixPutsUptoCardSaid : Prop := Claim7.holds Tryd.pinned (.plain (OpenSpec.upto fixPutsSpec)) fixPutsUptoCard

/-- THE SECOND FORM's CARD OF 'crossroadslaw3.FixKnown'. -/
def fixKnownUptoCard : Claim7 := { stood := { row := fixKnownUptoRow, standIns := [], harness := (true, "c658863891ba1bd35bca1be107a59d888724972e2788b0b9a8794d53fe4e8ee1"), looks := false }, kinds := [], alts := [], laidByText := true, laidKinds := [.data], laidTests := true, laidLooks := .later }
def FixKnownUptoCardSaid : Prop := Claim7.holds Tryd.pinned (.plain (OpenSpec.upto fixKnownSpec)) fixKnownUptoCard

/-- THE SECOND FORM's CARD OF 'crossroadslaw3.FixParts'. -/
def fixPartsUptoCard : Claim7 := { stood := { row := fixPartsUptoRow, standIns := [], harness := (true, "c658863891ba1bd35bca1be107a59d888724972e2788b0b9a8794d53fe4e8ee1"), looks := false }, kinds := [], alts := [], laidByText := true, laidKinds := [.data], laidTests := true, laidLooks := .later }
def FixPartsUptoCardSaid : Prop := Claim7.holds Tryd.pinned (.plain (OpenSpec.upto fixPartsSpec)) fixPartsUptoCard

/-- THE SECOND FORM's CARD OF 'crossroadslaw3.FixWhole'. -/
def fixWholeUptoCard : Claim7 := { stood := { row := fixWholeUptoRow, standIns := [], harness := (true, "c658863891ba1bd35bca1be107a59d888724972e2788b0b9a8794d53fe4e8ee1"), looks := false }, kinds := [], alts := [], laidByText := true, laidKinds := [.data], laidTests := true, laidLooks := .later }
def FixWholeUptoCardSaid : Prop := Claim7.holds Tryd.pinned (.plain (OpenSpec.upto fixWholeSpec)) fixWholeUptoCard

/-- THE SECOND FORM's CARD OF 'crossroadslaw3.FixMany'. -/
def fixManyUptoCard : Claim7 := { stood := { row := fixManyUptoRow, standIns := [], harness := (true, "c658863891ba1bd35bca1be107a59d888724972e2788b0b9a8794d53fe4e8ee1"), looks := false }, kinds := [], alts := [], laidByText := true, laidKinds := [.data], laidTests := true, laidLooks := .later }
def FixManyUptoCardSaid : Prop := Claim7.holds Tryd.pinned (.plain (OpenSpec.upto fixManySpec)) fixManyUptoCard
end Rows
end Go.Proofs.YtchbdnifcckloaaDoor
