/-
  DERIVED. GIVEN WITH THE SEED: THE CARDS: each row of YtgbmiphaabeodaaDoorRows.lean that lists a variable, with what it lists TIED to the program's text (the seventh form; the later family's looks); each row that meets fmt, with fmt's text TOLD by the authors' own Lean function (tested against real Go, not proved from fmt's source: count such statements apart). THE CARD IS WHAT COUNTS. Prove the row's statement (the work); the ties are given (YtgbmiphaabeodaaDoorTie.lean); close each card by the builder's one call (the guide's Derived/Test/ToyasCard.lean, 'card_holds'). Laid BY PROGRAM, IN A SANDBOX (cutbox-door.mjs). By AI agents, Wed Nov 11 2026. No macro, syntax, notation, axiom, sorry.
-/
import Derived.Test.YtgbmiphaabeodaaDoorRows
import GoSem.ClaimSeven
namespace Go.Proofs.YtgbmiphaabeodaaDoor
namespace Rows

/-- THE TIED CARD OF 'crossroadslaw2.TermVars'. -/
def termVarsCard : Claim7 := { stood := { row := termVarsRow, standIns := [], harness := (true, "5e94fe36d7465116b9d87e37c7733d21997172c8edab90929bd82d31d48272cf"), looks := false }, kinds := [], alts := [], laidByText := true, laidKinds := [.data], laidTests := true, laidLooks := .later }
def TermVarsCardSaid : Prop := Claim7.holds Tryd.pinned (.plain (OpenSpec.ofChange termVarsSpec)) termVarsCard

/-- THE TIED CARD OF 'crossroadslaw3.FixPuts'. -/
def fixPutsCard : Claim7 := { stood := { row := fixPutsRow, standIns := [], harness := (true, "5e94fe36d7465116b9d87e37c7733d21997172c8edab90929bd82d31d48272cf"), looks := false }, kinds := [], alts := [], laidByText := true, laidKinds := [.data], laidTests := true, laidLooks := .later }
def FixPutsCardSaid : Prop := Claim7.holds Tryd.pinned (.plain (OpenSpec.ofChange fixPutsSpec)) fixPutsCard

/-- THE TIED CARD OF 'crossroadslaw3.FixParts'. -/
def fixPartsCard : Claim7 := { stood := { row := fixPartsRow, standIns := [], harness := (true, "5e94fe36d7465116b9d87e37c7733d21997172c8edab90929bd82d31d48272cf"), looks := false }, kinds := [], alts := [], laidByText := true, laidKinds := [.data], laidTests := true, laidLooks := .later }
def FixPartsCardSaid : Prop := Claim7.holds Tryd.pinned (.plain (OpenSpec.ofChange fixPartsSpec)) fixPartsCard

/-- THE SECOND FORM's CARD OF 'crossroadslaw2.TermVars'. -/
def termVarsUptoCard : Claim7 := { stood := { row := termVarsUptoRow, standIns := [], harness := (true, "5e94fe36d7465116b9d87e37c7733d21997172c8edab90929bd82d31d48272cf"), looks := false }, kinds := [], alts := [], laidByText := true, laidKinds := [.data], laidTests := true, laidLooks := .later }
def TermVarsUptoCardSaid : Prop := Claim7.holds Tryd.pinned (.plain (OpenSpec.upto termVarsSpec)) termVarsUptoCard

/-- THE SECOND FORM's CARD OF 'crossroadslaw3.FixPuts'. -/
def fixPutsUptoCard : Claim7 := { stood := { row := fixPutsUptoRow, standIns := [], harness := (true, "5e94fe36d7465116b9d87e37c7733d21997172c8edab90929bd82d31d48272cf"), looks := false }, kinds := [], alts := [], laidByText := true, laidKinds := [.data], laidTests := true, laidLooks := .later }
def FixPutsUptoCardSaid : Prop := Claim7.holds Tryd.pinned (.plain (OpenSpec.upto fixPutsSpec)) fixPutsUptoCard

/-- THE SECOND FORM's CARD OF 'crossroadslaw3.FixParts'. -/
def fixPartsUptoCard : Claim7 := { stood := { row := fixPartsUptoRow, standIns := [], harness := (true, "5e94fe36d7465116b9d87e37c7733d21997172c8edab90929bd82d31d48272cf"), looks := false }, kinds := [], alts := [], laidByText := true, laidKinds := [.data], laidTests := true, laidLooks := .later }
def FixPartsUptoCardSaid : Prop := Claim7.holds Tryd.pinned (.plain (OpenSpec.upto fixPartsSpec)) fixPartsUptoCard
end Rows
end Go.Proofs.YtgbmiphaabeodaaDoor
