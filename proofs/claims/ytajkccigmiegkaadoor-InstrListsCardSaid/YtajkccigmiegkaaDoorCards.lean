/-
  DERIVED. GIVEN WITH THE SEED: THE CARDS: each row of YtajkccigmiegkaaDoorRows.lean that lists a variable, with what it lists TIED to the program's text (the seventh form; the later family's looks); each row that meets fmt, with fmt's text TOLD by the authors' own Lean function (tested against real Go, not proved from fmt's source: count such statements apart). THE CARD IS WHAT COUNTS. Prove the row's statement (the work); the ties are given (YtajkccigmiegkaaDoorTie.lean); close each card by the builder's one call (the guide's Derived/Test/ToyasCard.lean, 'card_holds'). Laid BY PROGRAM, IN A SANDBOX (cutbox-door.mjs). By AI agents, Wed Nov 11 2026. No macro, syntax, notation, axiom, sorry.
-/
import Derived.Test.YtajkccigmiegkaaDoorRows
import GoSem.ClaimSeven
namespace Go.Proofs.YtajkccigmiegkaaDoor
namespace Rows

/-- THE TIED CARD OF 'replevinlaw16.InstrChecks'. -/
def instrChecksCard : Claim7 := { stood := { row := instrChecksRow, standIns := [], harness := (true, "1fee2dbc1f32d5c75035d59135f3c6be1265050506584c043e52037d8f4db83c"), looks := false }, kinds := [], alts := [], laidByText := true, laidKinds := [.wider], laidTests := true, laidLooks := .later }
def InstrChecksCardSaid : Prop := Claim7.holds Tryd.pinned (.plain (OpenSpec.ofChange instrChecksSpec)) instrChecksCard

/-- THE TIED CARD OF 'replevinlaw16.InstrForms'. -/
def instrFormsCard : Claim7 := { stood := { row := instrFormsRow, standIns := [], harness := (true, "1fee2dbc1f32d5c75035d59135f3c6be1265050506584c043e52037d8f4db83c"), looks := false }, kinds := [], alts := [], laidByText := true, laidKinds := [.wider], laidTests := true, laidLooks := .later }
def InstrFormsCardSaid : Prop := Claim7.holds Tryd.pinned (.plain (OpenSpec.ofChange instrFormsSpec)) instrFormsCard

/-- THE TIED CARD OF 'replevinlaw16.InstrEncodes'. -/
def instrEncodesCard : Claim7 := { stood := { row := instrEncodesRow, standIns := [], harness := (true, "1fee2dbc1f32d5c75035d59135f3c6be1265050506584c043e52037d8f4db83c"), looks := false }, kinds := [], alts := [], laidByText := true, laidKinds := [.wider], laidTests := true, laidLooks := .later }
def InstrEncodesCardSaid : Prop := Claim7.holds Tryd.pinned (.plain (OpenSpec.ofChange instrEncodesSpec)) instrEncodesCard

/-- THE TIED CARD OF 'replevinlaw16.InstrDecodes'. -/
def instrDecodesCard : Claim7 := { stood := { row := instrDecodesRow, standIns := [], harness := (true, "1fee2dbc1f32d5c75035d59135f3c6be1265050506584c043e52037d8f4db83c"), looks := false }, kinds := [], alts := [], laidByText := true, laidKinds := [.wider], laidTests := true, laidLooks := .later }
def InstrDecodesCardSaid : Prop := Claim7.holds Tryd.pinned (.plain (OpenSpec.ofChange instrDecodesSpec)) instrDecodesCard

/-- THE TIED CARD OF 'replevinlaw16.InstrLists'. -/
def instrListsCard : Claim7 := { stood := { row := instrListsRow, standIns := [], harness := (true, "1fee2dbc1f32d5c75035d59135f3c6be1265050506584c043e52037d8f4db83c"), looks := false }, kinds := [], alts := [], laidByText := true, laidKinds := [.wider], laidTests := true, laidLooks := .later }
def InstrListsCardSaid : Prop := Claim7.holds Tryd.pinned (.plain (OpenSpec.ofChange instrListsSpec)) instrListsCard

/-- THE TIED CARD OF 'replevinlaw16.InstrBytes'. -/
def instrBytesCard : Claim7 := { stood := { row := instrBytesRow, standIns := [], harness := (true, "1fee2dbc1f32d5c75035d59135f3c6be1265050506584c043e52037d8f4db83c"), looks := false }, kinds := [], alts := [], laidByText := true, laidKinds := [.wider], laidTests := true, laidLooks := .later }
def InstrBytesCardSaid : Prop := Claim7.holds Tryd.pinned (.plain (OpenSpec.ofChange instrBytesSpec)) instrBytesCard

/-- THE TIED CARD OF 'replevinlaw16.InstrCalculates'. -/
def instrCalculatesCard : Claim7 := { stood := { row := instrCalculatesRow, standIns := [], harness := (true, "1fee2dbc1f32d5c75035d59135f3c6be1265050506584c043e52037d8f4db83c"), looks := false }, kinds := [], alts := [], laidByText := true, laidKinds := [.wider], laidTests := true, laidLooks := .later }
def InstrCalculatesCardSaid : Prop := Claim7.holds Tryd.pinned (.plain (OpenSpec.ofChange instrCalculatesSpec)) instrCalculatesCard

/-- THE TIED CARD OF 'replevinlaw16.InstrArithmetic'. -/
def instrArithmeticCard : Claim7 := { stood := { row := instrArithmeticRow, standIns := [], harness := (true, "1fee2dbc1f32d5c75035d59135f3c6be1265050506584c043e52037d8f4db83c"), looks := false }, kinds := [], alts := [], laidByText := true, laidKinds := [.wider], laidTests := true, laidLooks := .later }
def InstrArithmeticCardSaid : Prop := Claim7.holds Tryd.pinned (.plain (OpenSpec.ofChange instrArithmeticSpec)) instrArithmeticCard

/-- THE TIED CARD OF 'replevinlaw16.InstrNumbers'. -/
def instrNumbersCard : Claim7 := { stood := { row := instrNumbersRow, standIns := [], harness := (true, "1fee2dbc1f32d5c75035d59135f3c6be1265050506584c043e52037d8f4db83c"), looks := false }, kinds := [], alts := [], laidByText := true, laidKinds := [.wider], laidTests := true, laidLooks := .later }
def InstrNumbersCardSaid : Prop := Claim7.holds Tryd.pinned (.plain (OpenSpec.ofChange instrNumbersSpec)) instrNumbersCard

/-- THE TIED CARD OF 'replevinlaw16.InstrRegisters'. -/
def instrRegistersCard : Claim7 := { stood := { row := instrRegistersRow, standIns := [], harness := (true, "1fee2dbc1f32d5c75035d59135f3c6be1265050506584c043e52037d8f4db83c"), looks := false }, kinds := [], alts := [], laidByText := true, laidKinds := [.wider], laidTests := true, laidLooks := .later }
def InstrRegistersCardSaid : Prop := Claim7.holds Tryd.pinned (.plain (OpenSpec.ofChange instrRegistersSpec)) instrRegistersCard

/-- THE SECOND FORM's CARD OF 'replevinlaw16.InstrChecks'. -/
def instrChecksUptoCard : Claim7 := { stood := { row := instrChecksUptoRow, standIns := [], harness := (true, "1fee2dbc1f32d5c75035d59135f3c6be1265050506584c043e52037d8f4db83c"), looks := false }, kinds := [], alts := [], laidByText := true, laidKinds := [.wider], laidTests := true, laidLooks := .later }
def InstrChecksUptoCardSaid : Prop := Claim7.holds Tryd.pinned (.plain (OpenSpec.upto instrChecksSpec)) instrChecksUptoCard

/-- THE SECOND FORM's CARD OF 'replevinlaw16.InstrForms'. -/
def instrFormsUptoCard : Claim7 := { stood := { row := instrFormsUptoRow, standIns := [], harness := (true, "1fee2dbc1f32d5c75035d59135f3c6be1265050506584c043e52037d8f4db83c"), looks := false }, kinds := [], alts := [], laidByText := true, laidKinds := [.wider], laidTests := true, laidLooks := .later }
def InstrFormsUptoCardSaid : Prop := Claim7.holds Tryd.pinned (.plain (OpenSpec.upto instrFormsSpec)) instrFormsUptoCard

/-- THE SECOND FORM's CARD OF 'replevinlaw16.InstrEncodes'. -/
def instrEncodesUptoCard : Claim7 := { stood := { row := instrEncodesUptoRow, standIns := [], harness := (true, "1fee2dbc1f32d5c75035d59135f3c6be1265050506584c043e52037d8f4db83c"), looks := false }, kinds := [], alts := [], laidByText := true, laidKinds := [.wider], laidTests := true, laidLooks := .later }
def InstrEncodesUptoCardSaid : Prop := Claim7.holds Tryd.pinned (.plain (OpenSpec.upto instrEncodesSpec)) instrEncodesUptoCard

/-- THE SECOND FORM's CARD OF 'replevinlaw16.InstrDecodes'. -/
def instrDecodesUptoCard : Claim7 := { stood := { row := instrDecodesUptoRow, standIns := [], harness := (true, "1fee2dbc1f32d5c75035d59135f3c6be1265050506584c043e52037d8f4db83c"), looks := false }, kinds := [], alts := [], laidByText := true, laidKinds := [.wider], laidTests := true, laidLooks := .later }
def InstrDecodesUptoCardSaid : Prop := Claim7.holds Tryd.pinned (.plain (OpenSpec.upto instrDecodesSpec)) instrDecodesUptoCard

/-- THE SECOND FORM's CARD OF 'replevinlaw16.InstrLists'. -/
def instrListsUptoCard : Claim7 := { stood := { row := instrListsUptoRow, standIns := [], harness := (true, "1fee2dbc1f32d5c75035d59135f3c6be1265050506584c043e52037d8f4db83c"), looks := false }, kinds := [], alts := [], laidByText := true, laidKinds := [.wider], laidTests := true, laidLooks := .later }
def InstrListsUptoCardSaid : Prop := Claim7.holds Tryd.pinned (.plain (OpenSpec.upto instrListsSpec)) instrListsUptoCard

/-- THE SECOND FORM's CARD OF 'replevinlaw16.InstrBytes'. -/
def instrBytesUptoCard : Claim7 := { stood := { row := instrBytesUptoRow, standIns := [], harness := (true, "1fee2dbc1f32d5c75035d59135f3c6be1265050506584c043e52037d8f4db83c"), looks := false }, kinds := [], alts := [], laidByText := true, laidKinds := [.wider], laidTests := true, laidLooks := .later }
def InstrBytesUptoCardSaid : Prop := Claim7.holds Tryd.pinned (.plain (OpenSpec.upto instrBytesSpec)) instrBytesUptoCard

/-- THE SECOND FORM's CARD OF 'replevinlaw16.InstrCalculates'. -/
def instrCalculatesUptoCard : Claim7 := { stood := { row := instrCalculatesUptoRow, standIns := [], harness := (true, "1fee2dbc1f32d5c75035d59135f3c6be1265050506584c043e52037d8f4db83c"), looks := false }, kinds := [], alts := [], laidByText := true, laidKinds := [.wider], laidTests := true, laidLooks := .later }
def InstrCalculatesUptoCardSaid : Prop := Claim7.holds Tryd.pinned (.plain (OpenSpec.upto instrCalculatesSpec)) instrCalculatesUptoCard

/-- THE SECOND FORM's CARD OF 'replevinlaw16.InstrArithmetic'. -/
def instrArithmeticUptoCard : Claim7 := { stood := { row := instrArithmeticUptoRow, standIns := [], harness := (true, "1fee2dbc1f32d5c75035d59135f3c6be1265050506584c043e52037d8f4db83c"), looks := false }, kinds := [], alts := [], laidByText := true, laidKinds := [.wider], laidTests := true, laidLooks := .later }
def InstrArithmeticUptoCardSaid : Prop := Claim7.holds Tryd.pinned (.plain (OpenSpec.upto instrArithmeticSpec)) instrArithmeticUptoCard

/-- THE SECOND FORM's CARD OF 'replevinlaw16.InstrNumbers'. -/
def instrNumbersUptoCard : Claim7 := { stood := { row := instrNumbersUptoRow, standIns := [], harness := (true, "1fee2dbc1f32d5c75035d59135f3c6be1265050506584c043e52037d8f4db83c"), looks := false }, kinds := [], alts := [], laidByText := true, laidKinds := [.wider], laidTests := true, laidLooks := .later }
def InstrNumbersUptoCardSaid : Prop := Claim7.holds Tryd.pinned (.plain (OpenSpec.upto instrNumbersSpec)) instrNumbersUptoCard

/-- THE SECOND FORM's CARD OF 'replevinlaw16.InstrRegisters'. -/
def instrRegistersUptoCard : Claim7 := { stood := { row := instrRegistersUptoRow, standIns := [], harness := (true, "1fee2dbc1f32d5c75035d59135f3c6be1265050506584c043e52037d8f4db83c"), looks := false }, kinds := [], alts := [], laidByText := true, laidKinds := [.wider], laidTests := true, laidLooks := .later }
def InstrRegistersUptoCardSaid : Prop := Claim7.holds Tryd.pinned (.plain (OpenSpec.upto instrRegistersSpec)) instrRegistersUptoCard
end Rows
end Go.Proofs.YtajkccigmiegkaaDoor
