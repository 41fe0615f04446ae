/-
  DERIVED. GIVEN WITH THE SEED: THE CARDS: each row of YtcdjmkfpclmbdaaGreatDoorRows.lean that lists a variable, with what it lists TIED to the program's text (the seventh form; the later family's looks); each row that meets fmt, with fmt's text TOLD by the authors' own Lean function (tested against real Go, not proved from fmt's source: count such statements apart). THE CARD IS WHAT COUNTS. Prove the row's statement (the work); the ties are given (YtcdjmkfpclmbdaaGreatDoorTie.lean); close each card by the builder's one call (the guide's Derived/Test/ToyasCard.lean, 'card_holds'). Laid BY PROGRAM, IN A SANDBOX (cutbox-door.mjs). By AI agents, Wed Nov 11 2026. No macro, syntax, notation, axiom, sorry.
-/
import Derived.Test.YtcdjmkfpclmbdaaGreatDoorRows
import GoSem.ClaimSeven
namespace Go.Proofs.YtcdjmkfpclmbdaaGreatDoor
namespace Rows

/-- THE TIED CARD OF 'replevinlaw04.ObjectMakes'. -/
def objectMakesCard : Claim7 := { stood := { row := objectMakesRow, standIns := [], harness := (true, "be2f6b9e78199eb186282ea690b25104e9519f33deedd4e76078fda3e54c8a50"), looks := true }, kinds := [], alts := [], laidByText := true, laidKinds := [.data, .data, .data, .sentinel, .sentinel, .data], laidTests := true, laidLooks := .later }
def ObjectMakesCardSaid : Prop := Claim7.holds Tryz.pinned (.plain (OpenSpec.ofChange objectMakesSpec)) objectMakesCard

/-- THE TIED CARD OF 'replevinlaw04.ObjectSorts'. -/
def objectSortsCard : Claim7 := { stood := { row := objectSortsRow, standIns := [], harness := (true, "be2f6b9e78199eb186282ea690b25104e9519f33deedd4e76078fda3e54c8a50"), looks := true }, kinds := [], alts := [], laidByText := true, laidKinds := [.data, .data, .data, .sentinel, .sentinel, .data], laidTests := true, laidLooks := .later }
def ObjectSortsCardSaid : Prop := Claim7.holds Tryz.pinned (.plain (OpenSpec.ofChange objectSortsSpec)) objectSortsCard

/-- THE TIED CARD OF 'replevinlaw04.ObjectEncodes'. -/
def objectEncodesCard : Claim7 := { stood := { row := objectEncodesRow, standIns := [], harness := (true, "be2f6b9e78199eb186282ea690b25104e9519f33deedd4e76078fda3e54c8a50"), looks := true }, kinds := [], alts := [], laidByText := true, laidKinds := [.data, .data, .data, .sentinel, .sentinel, .data], laidTests := true, laidLooks := .later }
def ObjectEncodesCardSaid : Prop := Claim7.holds Tryz.pinned (.plain (OpenSpec.ofChange objectEncodesSpec)) objectEncodesCard

/-- THE TIED CARD OF 'replevinlaw04.ObjectDecodes'. -/
def objectDecodesCard : Claim7 := { stood := { row := objectDecodesRow, standIns := [], harness := (true, "be2f6b9e78199eb186282ea690b25104e9519f33deedd4e76078fda3e54c8a50"), looks := true }, kinds := [], alts := [], laidByText := true, laidKinds := [.data, .data, .data, .sentinel, .sentinel, .data], laidTests := true, laidLooks := .later }
def ObjectDecodesCardSaid : Prop := Claim7.holds Tryz.pinned (.plain (OpenSpec.ofChange objectDecodesSpec)) objectDecodesCard

/-- THE SECOND FORM's CARD OF 'replevinlaw04.ObjectMakes'. -/
def objectMakesUptoCard : Claim7 := { stood := { row := objectMakesUptoRow, standIns := [], harness := (true, "be2f6b9e78199eb186282ea690b25104e9519f33deedd4e76078fda3e54c8a50"), looks := true }, kinds := [], alts := [], laidByText := true, laidKinds := [.data, .data, .data, .sentinel, .sentinel, .data], laidTests := true, laidLooks := .later }
def ObjectMakesUptoCardSaid : Prop := Claim7.holds Tryz.pinned (.plain (OpenSpec.upto objectMakesSpec)) objectMakesUptoCard

/-- THE SECOND FORM's CARD OF 'replevinlaw04.ObjectSorts'. -/
def objectSortsUptoCard : Claim7 := { stood := { row := objectSortsUptoRow, standIns := [], harness := (true, "be2f6b9e78199eb186282ea690b25104e9519f33deedd4e76078fda3e54c8a50"), looks := true }, kinds := [], alts := [], laidByText := true, laidKinds := [.data, .data, .data, .sentinel, .sentinel, .data], laidTests := true, laidLooks := .later }
def ObjectSortsUptoCardSaid : Prop := Claim7.holds Tryz.pinned (.plain (OpenSpec.upto objectSortsSpec)) objectSortsUptoCard

/-- THE SECOND FORM's CARD OF 'replevinlaw04.ObjectEncodes'. -/
def objectEncodesUptoCard : Claim7 := { stood := { row := objectEncodesUptoRow, standIns := [], harness := (true, "be2f6b9e78199eb186282ea690b25104e9519f33deedd4e76078fda3e54c8a50"), looks := true }, kinds := [], alts := [], laidByText := true, laidKinds := [.data, .data, .data, .sentinel, .sentinel, .data], laidTests := true, laidLooks := .later }
def ObjectEncodesUptoCardSaid : Prop := Claim7.holds Tryz.pinned (.plain (OpenSpec.upto objectEncodesSpec)) objectEncodesUptoCard

/-- THE SECOND FORM's CARD OF 'replevinlaw04.ObjectDecodes'. -/
def objectDecodesUptoCard : Claim7 := { stood := { row := objectDecodesUptoRow, standIns := [], harness := (true, "be2f6b9e78199eb186282ea690b25104e9519f33deedd4e76078fda3e54c8a50"), looks := true }, kinds := [], alts := [], laidByText := true, laidKinds := [.data, .data, .data, .sentinel, .sentinel, .data], laidTests := true, laidLooks := .later }
def ObjectDecodesUptoCardSaid : Prop := Claim7.holds Tryz.pinned (.plain (OpenSpec.upto objectDecodesSpec)) objectDecodesUptoCard
end Rows
end Go.Proofs.YtcdjmkfpclmbdaaGreatDoor
