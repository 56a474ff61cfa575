/-
  DERIVED. GIVEN WITH THE SEED: THE CARDS: each row of YtcgleficedipkaaGreatDoorRows.lean that lists a variable, with what it lists TIED to the program's text (the seventh form; the later family's looks); each row that meets fmt, with fmt's text TOLD by the authors' own Lean function (tested against real Go, not proved from fmt's source: count such statements apart). THE CARD IS WHAT COUNTS. Prove the row's statement (the work); the ties are given (YtcgleficedipkaaGreatDoorTie.lean); close each card by the builder's one call (the guide's Derived/Test/ToyasCard.lean, 'card_holds'). Laid BY PROGRAM, IN A SANDBOX (cutbox-door.mjs). By AI agents, Wed Nov 11 2026. No macro, syntax, notation, axiom, sorry.
-/
import Derived.Test.YtcgleficedipkaaGreatDoorRows
import GoSem.ClaimSeven
namespace Go.Proofs.YtcgleficedipkaaGreatDoor
namespace Rows

/-- THE TIED CARD OF 'lineallaw.Found'. -/
def foundCard : Claim7 := { stood := { row := foundRow, standIns := [], harness := (true, "980db1897bfcbb90d2d34ed22d853b4793faa09b2ee354594e4fd1289f3edaa4"), looks := true }, kinds := [], alts := [], laidByText := true, laidKinds := [.data, .data, .data, .handle, .sentinel, .sentinel, .sentinel, .sentinel, .sentinel, .sentinel, .sentinel, .sentinel, .sentinel, .sentinel], laidTests := true, laidLooks := .later }
def FoundCardSaid : Prop := Claim7.holds Tryz.pinned (.plain (OpenSpec.ofChange foundSpec)) foundCard

/-- THE TIED CARD OF 'lineallaw.Validated'. -/
def validatedCard : Claim7 := { stood := { row := validatedRow, standIns := [], harness := (true, "980db1897bfcbb90d2d34ed22d853b4793faa09b2ee354594e4fd1289f3edaa4"), looks := true }, kinds := [], alts := [], laidByText := true, laidKinds := [.data, .data, .data, .handle, .sentinel, .sentinel, .sentinel, .sentinel, .sentinel, .sentinel, .sentinel, .sentinel, .sentinel, .sentinel], laidTests := true, laidLooks := .later }
def ValidatedCardSaid : Prop := Claim7.holds Tryz.pinned (.plain (OpenSpec.ofChange validatedSpec)) validatedCard

/-- THE TIED CARD OF 'linealkeep.Held'. -/
def heldCard : Claim7 := { stood := { row := heldRow, standIns := [], harness := (true, "980db1897bfcbb90d2d34ed22d853b4793faa09b2ee354594e4fd1289f3edaa4"), looks := true }, kinds := [], alts := [], laidByText := true, laidKinds := [.data, .data, .data, .handle, .sentinel, .sentinel, .sentinel, .sentinel, .sentinel, .sentinel, .sentinel, .sentinel, .sentinel, .sentinel], laidTests := true, laidLooks := .later }
def HeldCardSaid : Prop := Claim7.holds Tryz.pinned (.plain (OpenSpec.ofChange heldSpec)) heldCard

/-- THE TIED CARD OF 'lineallaw.All'. -/
def allCard : Claim7 := { stood := { row := allRow, standIns := [], harness := (true, "980db1897bfcbb90d2d34ed22d853b4793faa09b2ee354594e4fd1289f3edaa4"), looks := true }, kinds := [], alts := [], laidByText := true, laidKinds := [.data, .data, .data, .handle, .sentinel, .sentinel, .sentinel, .sentinel, .sentinel, .sentinel, .sentinel, .sentinel, .sentinel, .sentinel], laidTests := true, laidLooks := .later }
def AllCardSaid : Prop := Claim7.holds Tryz.pinned (.plain (OpenSpec.ofChange allSpec)) allCard

/-- THE SECOND FORM's CARD OF 'lineallaw.Found'. -/
def foundUptoCard : Claim7 := { stood := { row := foundUptoRow, standIns := [], harness := (true, "980db1897bfcbb90d2d34ed22d853b4793faa09b2ee354594e4fd1289f3edaa4"), looks := true }, kinds := [], alts := [], laidByText := true, laidKinds := [.data, .data, .data, .handle, .sentinel, .sentinel, .sentinel, .sentinel, .sentinel, .sentinel, .sentinel, .sentinel, .sentinel, .sentinel], laidTests := true, laidLooks := .later }
def FoundUptoCardSaid : Prop := Claim7.holds Tryz.pinned (.plain (OpenSpec.upto foundSpec)) foundUptoCard

/-- THE SECOND FORM's CARD OF 'lineallaw.Validated'. -/
def validatedUptoCard : Claim7 := { stood := { row := validatedUptoRow, standIns := [], harness := (true, "980db1897bfcbb90d2d34ed22d853b4793faa09b2ee354594e4fd1289f3edaa4"), looks := true }, kinds := [], alts := [], laidByText := true, laidKinds := [.data, .data, .data, .handle, .sentinel, .sentinel, .sentinel, .sentinel, .sentinel, .sentinel, .sentinel, .sentinel, .sentinel, .sentinel], laidTests := true, laidLooks := .later }
def ValidatedUptoCardSaid : Prop := Claim7.holds Tryz.pinned (.plain (OpenSpec.upto validatedSpec)) validatedUptoCard

/-- THE SECOND FORM's CARD OF 'linealkeep.Held'. -/
def heldUptoCard : Claim7 := { stood := { row := heldUptoRow, standIns := [], harness := (true, "980db1897bfcbb90d2d34ed22d853b4793faa09b2ee354594e4fd1289f3edaa4"), looks := true }, kinds := [], alts := [], laidByText := true, laidKinds := [.data, .data, .data, .handle, .sentinel, .sentinel, .sentinel, .sentinel, .sentinel, .sentinel, .sentinel, .sentinel, .sentinel, .sentinel], laidTests := true, laidLooks := .later }
def HeldUptoCardSaid : Prop := Claim7.holds Tryz.pinned (.plain (OpenSpec.upto heldSpec)) heldUptoCard

/-- THE SECOND FORM's CARD OF 'lineallaw.All'. -/
def allUptoCard : Claim7 := { stood := { row := allUptoRow, standIns := [], harness := (true, "980db1897bfcbb90d2d34ed22d853b4793faa09b2ee354594e4fd1289f3edaa4"), looks := true }, kinds := [], alts := [], laidByText := true, laidKinds := [.data, .data, .data, .handle, .sentinel, .sentinel, .sentinel, .sentinel, .sentinel, .sentinel, .sentinel, .sentinel, .sentinel, .sentinel], laidTests := true, laidLooks := .later }
def AllUptoCardSaid : Prop := Claim7.holds Tryz.pinned (.plain (OpenSpec.upto allSpec)) allUptoCard
end Rows
end Go.Proofs.YtcgleficedipkaaGreatDoor
