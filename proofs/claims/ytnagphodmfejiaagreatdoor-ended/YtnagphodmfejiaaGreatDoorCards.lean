/-
  DERIVED. GIVEN WITH THE SEED: THE CARDS: each row of YtnagphodmfejiaaGreatDoorRows.lean that lists a variable, with what it lists TIED to the program's text (the seventh form; the later family's looks); each row that meets fmt, with fmt's text TOLD by the authors' own Lean function (tested against real Go, not proved from fmt's source: count such statements apart). THE CARD IS WHAT COUNTS. Prove the row's statement (the work); the ties are given (YtnagphodmfejiaaGreatDoorTie.lean); close each card by the builder's one call (the guide's Derived/Test/ToyasCard.lean, 'card_holds'). Laid BY PROGRAM, IN A SANDBOX (cutbox-door.mjs). By AI agents, Wed Nov 11 2026. No macro, syntax, notation, axiom, sorry.
-/
import Derived.Test.YtnagphodmfejiaaGreatDoorRows
import GoSem.ClaimSeven
namespace Go.Proofs.YtnagphodmfejiaaGreatDoor
namespace Rows

/-- THE TIED CARD OF 'lineallaw.Compiles'. -/
def compilesCard : Claim7 := { stood := { row := compilesRow, standIns := [], harness := (true, "1b921ba313abede6978c3e9dba058c4d6d82809a7922e0df7490375d1a70ee7f"), looks := true }, kinds := [], alts := [], laidByText := true, laidKinds := [.data, .data, .data, .handle, .sentinel, .sentinel, .sentinel, .sentinel, .sentinel, .sentinel, .sentinel, .sentinel, .sentinel, .sentinel], laidTests := true, laidLooks := .later }
def CompilesCardSaid : Prop := Claim7.holds Tryz.pinned (.plain (OpenSpec.ofChange compilesSpec)) compilesCard

/-- THE TIED CARD OF 'lineallaw.Ended'. -/
def endedCard : Claim7 := { stood := { row := endedRow, standIns := [], harness := (true, "1b921ba313abede6978c3e9dba058c4d6d82809a7922e0df7490375d1a70ee7f"), looks := true }, kinds := [], alts := [], laidByText := true, laidKinds := [.data, .data, .data, .handle, .sentinel, .sentinel, .sentinel, .sentinel, .sentinel, .sentinel, .sentinel, .sentinel, .sentinel, .sentinel], laidTests := true, laidLooks := .later }
def EndedCardSaid : Prop := Claim7.holds Tryz.pinned (.plain (OpenSpec.ofChange endedSpec)) endedCard

/-- THE SECOND FORM's CARD OF 'lineallaw.Compiles'. -/
def compilesUptoCard : Claim7 := { stood := { row := compilesUptoRow, standIns := [], harness := (true, "1b921ba313abede6978c3e9dba058c4d6d82809a7922e0df7490375d1a70ee7f"), looks := true }, kinds := [], alts := [], laidByText := true, laidKinds := [.data, .data, .data, .handle, .sentinel, .sentinel, .sentinel, .sentinel, .sentinel, .sentinel, .sentinel, .sentinel, .sentinel, .sentinel], laidTests := true, laidLooks := .later }
def CompilesUptoCardSaid : Prop := Claim7.holds Tryz.pinned (.plain (OpenSpec.upto compilesSpec)) compilesUptoCard

/-- THE SECOND FORM's CARD OF 'lineallaw.Ended'. -/
def endedUptoCard : Claim7 := { stood := { row := endedUptoRow, standIns := [], harness := (true, "1b921ba313abede6978c3e9dba058c4d6d82809a7922e0df7490375d1a70ee7f"), looks := true }, kinds := [], alts := [], laidByText := true, laidKinds := [.data, .data, .data, .handle, .sentinel, .sentinel, .sentinel, .sentinel, .sentinel, .sentinel, .sentinel, .sentinel, .sentinel, .sentinel], laidTests := true, laidLooks := .later }
def EndedUptoCardSaid : Prop := Claim7.holds Tryz.pinned (.plain (OpenSpec.upto endedSpec)) endedUptoCard
end Rows
end Go.Proofs.YtnagphodmfejiaaGreatDoor
