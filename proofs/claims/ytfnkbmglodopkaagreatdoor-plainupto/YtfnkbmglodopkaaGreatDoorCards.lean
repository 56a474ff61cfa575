/-
  DERIVED. GIVEN WITH THE SEED: THE CARDS: each row of YtfnkbmglodopkaaGreatDoorRows.lean that lists a variable, with what it lists TIED to the program's text (the seventh form; the later family's looks); each row that meets fmt, with fmt's text TOLD by the authors' own Lean function (tested against real Go, not proved from fmt's source: count such statements apart). THE CARD IS WHAT COUNTS. Prove the row's statement (the work); the ties are given (YtfnkbmglodopkaaGreatDoorTie.lean); close each card by the builder's one call (the guide's Derived/Test/ToyasCard.lean, 'card_holds'). Laid BY PROGRAM, IN A SANDBOX (cutbox-door.mjs). By AI agents, Wed Nov 11 2026. No macro, syntax, notation, axiom, sorry.
-/
import Derived.Test.YtfnkbmglodopkaaGreatDoorRows
import GoSem.ClaimSeven
namespace Go.Proofs.YtfnkbmglodopkaaGreatDoor
namespace Rows

/-- THE TIED CARD OF 'linealkeep.Texts'. -/
def textsCard : Claim7 := { stood := { row := textsRow, standIns := [], harness := (true, "131865b8e881a374367170e6b9732a7db149dd1440aa3eb6d120eae431c6b1c5"), looks := true }, kinds := [], alts := [], laidByText := true, laidKinds := [.data, .data, .data, .handle, .sentinel, .sentinel, .sentinel, .sentinel, .sentinel, .sentinel, .sentinel, .sentinel, .sentinel, .sentinel], laidTests := true, laidLooks := .later }
def TextsCardSaid : Prop := Claim7.holds Tryz.pinned (.plain (OpenSpec.ofChange textsSpec)) textsCard

/-- THE TIED CARD OF 'linealkeep.Joined'. -/
def joinedCard : Claim7 := { stood := { row := joinedRow, standIns := [], harness := (true, "131865b8e881a374367170e6b9732a7db149dd1440aa3eb6d120eae431c6b1c5"), looks := true }, kinds := [], alts := [], laidByText := true, laidKinds := [.data, .data, .data, .handle, .sentinel, .sentinel, .sentinel, .sentinel, .sentinel, .sentinel, .sentinel, .sentinel, .sentinel, .sentinel], laidTests := true, laidLooks := .later }
def JoinedCardSaid : Prop := Claim7.holds Tryz.pinned (.plain (OpenSpec.ofChange joinedSpec)) joinedCard

/-- THE TIED CARD OF 'linealkeep.Either'. -/
def eitherCard : Claim7 := { stood := { row := eitherRow, standIns := [], harness := (true, "131865b8e881a374367170e6b9732a7db149dd1440aa3eb6d120eae431c6b1c5"), looks := true }, kinds := [], alts := [], laidByText := true, laidKinds := [.data, .data, .data, .handle, .sentinel, .sentinel, .sentinel, .sentinel, .sentinel, .sentinel, .sentinel, .sentinel, .sentinel, .sentinel], laidTests := true, laidLooks := .later }
def EitherCardSaid : Prop := Claim7.holds Tryz.pinned (.plain (OpenSpec.ofChange eitherSpec)) eitherCard

/-- THE TIED CARD OF 'linealkeep.Starred'. -/
def starredCard : Claim7 := { stood := { row := starredRow, standIns := [], harness := (true, "131865b8e881a374367170e6b9732a7db149dd1440aa3eb6d120eae431c6b1c5"), looks := true }, kinds := [], alts := [], laidByText := true, laidKinds := [.data, .data, .data, .handle, .sentinel, .sentinel, .sentinel, .sentinel, .sentinel, .sentinel, .sentinel, .sentinel, .sentinel, .sentinel], laidTests := true, laidLooks := .later }
def StarredCardSaid : Prop := Claim7.holds Tryz.pinned (.plain (OpenSpec.ofChange starredSpec)) starredCard

/-- THE TIED CARD OF 'linealkeep.Times'. -/
def timesCard : Claim7 := { stood := { row := timesRow, standIns := [], harness := (true, "131865b8e881a374367170e6b9732a7db149dd1440aa3eb6d120eae431c6b1c5"), looks := true }, kinds := [], alts := [], laidByText := true, laidKinds := [.data, .data, .data, .handle, .sentinel, .sentinel, .sentinel, .sentinel, .sentinel, .sentinel, .sentinel, .sentinel, .sentinel, .sentinel], laidTests := true, laidLooks := .later }
def TimesCardSaid : Prop := Claim7.holds Tryz.pinned (.plain (OpenSpec.ofChange timesSpec)) timesCard

/-- THE TIED CARD OF 'lineallaw.Found'. -/
def foundCard : Claim7 := { stood := { row := foundRow, standIns := [], harness := (true, "131865b8e881a374367170e6b9732a7db149dd1440aa3eb6d120eae431c6b1c5"), looks := true }, kinds := [], alts := [], laidByText := true, laidKinds := [.data, .data, .data, .handle, .sentinel, .sentinel, .sentinel, .sentinel, .sentinel, .sentinel, .sentinel, .sentinel, .sentinel, .sentinel], laidTests := true, laidLooks := .later }
def FoundCardSaid : Prop := Claim7.holds Tryz.pinned (.plain (OpenSpec.ofChange foundSpec)) foundCard

/-- THE TIED CARD OF 'linealkeep.Kinds'. -/
def kindsCard : Claim7 := { stood := { row := kindsRow, standIns := [], harness := (true, "131865b8e881a374367170e6b9732a7db149dd1440aa3eb6d120eae431c6b1c5"), looks := true }, kinds := [], alts := [], laidByText := true, laidKinds := [.data, .data, .data, .handle, .sentinel, .sentinel, .sentinel, .sentinel, .sentinel, .sentinel, .sentinel, .sentinel, .sentinel, .sentinel], laidTests := true, laidLooks := .later }
def KindsCardSaid : Prop := Claim7.holds Tryz.pinned (.plain (OpenSpec.ofChange kindsSpec)) kindsCard

/-- THE TIED CARD OF 'linealkeep.Plain'. -/
def plainCard : Claim7 := { stood := { row := plainRow, standIns := [], harness := (true, "131865b8e881a374367170e6b9732a7db149dd1440aa3eb6d120eae431c6b1c5"), looks := true }, kinds := [], alts := [], laidByText := true, laidKinds := [.data, .data, .data, .handle, .sentinel, .sentinel, .sentinel, .sentinel, .sentinel, .sentinel, .sentinel, .sentinel, .sentinel, .sentinel], laidTests := true, laidLooks := .later }
def PlainCardSaid : Prop := Claim7.holds Tryz.pinned (.plain (OpenSpec.ofChange plainSpec)) plainCard

/-- THE TIED CARD OF 'linealkeep.Anchored'. -/
def anchoredCard : Claim7 := { stood := { row := anchoredRow, standIns := [], harness := (true, "131865b8e881a374367170e6b9732a7db149dd1440aa3eb6d120eae431c6b1c5"), looks := true }, kinds := [], alts := [], laidByText := true, laidKinds := [.data, .data, .data, .handle, .sentinel, .sentinel, .sentinel, .sentinel, .sentinel, .sentinel, .sentinel, .sentinel, .sentinel, .sentinel], laidTests := true, laidLooks := .later }
def AnchoredCardSaid : Prop := Claim7.holds Tryz.pinned (.plain (OpenSpec.ofChange anchoredSpec)) anchoredCard

/-- THE TIED CARD OF 'linealkeep.Somewhere'. -/
def somewhereCard : Claim7 := { stood := { row := somewhereRow, standIns := [], harness := (true, "131865b8e881a374367170e6b9732a7db149dd1440aa3eb6d120eae431c6b1c5"), looks := true }, kinds := [], alts := [], laidByText := true, laidKinds := [.data, .data, .data, .handle, .sentinel, .sentinel, .sentinel, .sentinel, .sentinel, .sentinel, .sentinel, .sentinel, .sentinel, .sentinel], laidTests := true, laidLooks := .later }
def SomewhereCardSaid : Prop := Claim7.holds Tryz.pinned (.plain (OpenSpec.ofChange somewhereSpec)) somewhereCard

/-- THE TIED CARD OF 'linealkeep.Unseen'. -/
def unseenCard : Claim7 := { stood := { row := unseenRow, standIns := [], harness := (true, "131865b8e881a374367170e6b9732a7db149dd1440aa3eb6d120eae431c6b1c5"), looks := true }, kinds := [], alts := [], laidByText := true, laidKinds := [.data, .data, .data, .handle, .sentinel, .sentinel, .sentinel, .sentinel, .sentinel, .sentinel, .sentinel, .sentinel, .sentinel, .sentinel], laidTests := true, laidLooks := .later }
def UnseenCardSaid : Prop := Claim7.holds Tryz.pinned (.plain (OpenSpec.ofChange unseenSpec)) unseenCard

/-- THE SECOND FORM's CARD OF 'linealkeep.Texts'. -/
def textsUptoCard : Claim7 := { stood := { row := textsUptoRow, standIns := [], harness := (true, "131865b8e881a374367170e6b9732a7db149dd1440aa3eb6d120eae431c6b1c5"), looks := true }, kinds := [], alts := [], laidByText := true, laidKinds := [.data, .data, .data, .handle, .sentinel, .sentinel, .sentinel, .sentinel, .sentinel, .sentinel, .sentinel, .sentinel, .sentinel, .sentinel], laidTests := true, laidLooks := .later }
def TextsUptoCardSaid : Prop := Claim7.holds Tryz.pinned (.plain (OpenSpec.upto textsSpec)) textsUptoCard

/-- THE SECOND FORM's CARD OF 'linealkeep.Joined'. -/
def joinedUptoCard : Claim7 := { stood := { row := joinedUptoRow, standIns := [], harness := (true, "131865b8e881a374367170e6b9732a7db149dd1440aa3eb6d120eae431c6b1c5"), looks := true }, kinds := [], alts := [], laidByText := true, laidKinds := [.data, .data, .data, .handle, .sentinel, .sentinel, .sentinel, .sentinel, .sentinel, .sentinel, .sentinel, .sentinel, .sentinel, .sentinel], laidTests := true, laidLooks := .later }
def JoinedUptoCardSaid : Prop := Claim7.holds Tryz.pinned (.plain (OpenSpec.upto joinedSpec)) joinedUptoCard

/-- THE SECOND FORM's CARD OF 'linealkeep.Either'. -/
def eitherUptoCard : Claim7 := { stood := { row := eitherUptoRow, standIns := [], harness := (true, "131865b8e881a374367170e6b9732a7db149dd1440aa3eb6d120eae431c6b1c5"), looks := true }, kinds := [], alts := [], laidByText := true, laidKinds := [.data, .data, .data, .handle, .sentinel, .sentinel, .sentinel, .sentinel, .sentinel, .sentinel, .sentinel, .sentinel, .sentinel, .sentinel], laidTests := true, laidLooks := .later }
def EitherUptoCardSaid : Prop := Claim7.holds Tryz.pinned (.plain (OpenSpec.upto eitherSpec)) eitherUptoCard

/-- THE SECOND FORM's CARD OF 'linealkeep.Starred'. -/
def starredUptoCard : Claim7 := { stood := { row := starredUptoRow, standIns := [], harness := (true, "131865b8e881a374367170e6b9732a7db149dd1440aa3eb6d120eae431c6b1c5"), looks := true }, kinds := [], alts := [], laidByText := true, laidKinds := [.data, .data, .data, .handle, .sentinel, .sentinel, .sentinel, .sentinel, .sentinel, .sentinel, .sentinel, .sentinel, .sentinel, .sentinel], laidTests := true, laidLooks := .later }
def StarredUptoCardSaid : Prop := Claim7.holds Tryz.pinned (.plain (OpenSpec.upto starredSpec)) starredUptoCard

/-- THE SECOND FORM's CARD OF 'linealkeep.Times'. -/
def timesUptoCard : Claim7 := { stood := { row := timesUptoRow, standIns := [], harness := (true, "131865b8e881a374367170e6b9732a7db149dd1440aa3eb6d120eae431c6b1c5"), looks := true }, kinds := [], alts := [], laidByText := true, laidKinds := [.data, .data, .data, .handle, .sentinel, .sentinel, .sentinel, .sentinel, .sentinel, .sentinel, .sentinel, .sentinel, .sentinel, .sentinel], laidTests := true, laidLooks := .later }
def TimesUptoCardSaid : Prop := Claim7.holds Tryz.pinned (.plain (OpenSpec.upto timesSpec)) timesUptoCard

/-- THE SECOND FORM's CARD OF 'lineallaw.Found'. -/
def foundUptoCard : Claim7 := { stood := { row := foundUptoRow, standIns := [], harness := (true, "131865b8e881a374367170e6b9732a7db149dd1440aa3eb6d120eae431c6b1c5"), looks := true }, kinds := [], alts := [], laidByText := true, laidKinds := [.data, .data, .data, .handle, .sentinel, .sentinel, .sentinel, .sentinel, .sentinel, .sentinel, .sentinel, .sentinel, .sentinel, .sentinel], laidTests := true, laidLooks := .later }
def FoundUptoCardSaid : Prop := Claim7.holds Tryz.pinned (.plain (OpenSpec.upto foundSpec)) foundUptoCard

/-- THE SECOND FORM's CARD OF 'linealkeep.Kinds'. -/
def kindsUptoCard : Claim7 := { stood := { row := kindsUptoRow, standIns := [], harness := (true, "131865b8e881a374367170e6b9732a7db149dd1440aa3eb6d120eae431c6b1c5"), looks := true }, kinds := [], alts := [], laidByText := true, laidKinds := [.data, .data, .data, .handle, .sentinel, .sentinel, .sentinel, .sentinel, .sentinel, .sentinel, .sentinel, .sentinel, .sentinel, .sentinel], laidTests := true, laidLooks := .later }
def KindsUptoCardSaid : Prop := Claim7.holds Tryz.pinned (.plain (OpenSpec.upto kindsSpec)) kindsUptoCard

/-- THE SECOND FORM's CARD OF 'linealkeep.Plain'. -/
def plainUptoCard : Claim7 := { stood := { row := plainUptoRow, standIns := [], harness := (true, "131865b8e881a374367170e6b9732a7db149dd1440aa3eb6d120eae431c6b1c5"), looks := true }, kinds := [], alts := [], laidByText := true, laidKinds := [.data, .data, .data, .handle, .sentinel, .sentinel, .sentinel, .sentinel, .sentinel, .sentinel, .sentinel, .sentinel, .sentinel, .sentinel], laidTests := true, laidLooks := .later }
def PlainUptoCardSaid : Prop := Claim7.holds Tryz.pinned (.plain (OpenSpec.upto plainSpec)) plainUptoCard

/-- THE SECOND FORM's CARD OF 'linealkeep.Anchored'. -/
def anchoredUptoCard : Claim7 := { stood := { row := anchoredUptoRow, standIns := [], harness := (true, "131865b8e881a374367170e6b9732a7db149dd1440aa3eb6d120eae431c6b1c5"), looks := true }, kinds := [], alts := [], laidByText := true, laidKinds := [.data, .data, .data, .handle, .sentinel, .sentinel, .sentinel, .sentinel, .sentinel, .sentinel, .sentinel, .sentinel, .sentinel, .sentinel], laidTests := true, laidLooks := .later }
def AnchoredUptoCardSaid : Prop := Claim7.holds Tryz.pinned (.plain (OpenSpec.upto anchoredSpec)) anchoredUptoCard

/-- THE SECOND FORM's CARD OF 'linealkeep.Somewhere'. -/
def somewhereUptoCard : Claim7 := { stood := { row := somewhereUptoRow, standIns := [], harness := (true, "131865b8e881a374367170e6b9732a7db149dd1440aa3eb6d120eae431c6b1c5"), looks := true }, kinds := [], alts := [], laidByText := true, laidKinds := [.data, .data, .data, .handle, .sentinel, .sentinel, .sentinel, .sentinel, .sentinel, .sentinel, .sentinel, .sentinel, .sentinel, .sentinel], laidTests := true, laidLooks := .later }
def SomewhereUptoCardSaid : Prop := Claim7.holds Tryz.pinned (.plain (OpenSpec.upto somewhereSpec)) somewhereUptoCard

/-- THE SECOND FORM's CARD OF 'linealkeep.Unseen'. -/
def unseenUptoCard : Claim7 := { stood := { row := unseenUptoRow, standIns := [], harness := (true, "131865b8e881a374367170e6b9732a7db149dd1440aa3eb6d120eae431c6b1c5"), looks := true }, kinds := [], alts := [], laidByText := true, laidKinds := [.data, .data, .data, .handle, .sentinel, .sentinel, .sentinel, .sentinel, .sentinel, .sentinel, .sentinel, .sentinel, .sentinel, .sentinel], laidTests := true, laidLooks := .later }
def UnseenUptoCardSaid : Prop := Claim7.holds Tryz.pinned (.plain (OpenSpec.upto unseenSpec)) unseenUptoCard
end Rows
end Go.Proofs.YtfnkbmglodopkaaGreatDoor
