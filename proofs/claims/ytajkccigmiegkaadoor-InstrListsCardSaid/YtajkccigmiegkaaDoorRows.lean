/-
  NARROWER THAN 'FOR EVERY INPUT', by the rows' own cells (each row's printed sentence says how): InstrChecks: laid · InstrForms: laid · InstrEncodes: laid · InstrDecodes: laid · InstrLists: laid · InstrBytes: laid · InstrCalculates: laid · InstrArithmetic: laid · InstrNumbers: laid · InstrRegisters: laid.
  DERIVED. THE GIVEN ROWS OF THIS SEAT. 10 by the template 'for every input the law returns true; each argument reads behind the call as it read before'; 0 by the template 'total and deterministic' (their statements: YtajkccigmiegkaaDoorTotals.lean).
  GIVEN WITH THE SEED: the statements are not yours to turn. If you find one false, say at which input.
  Laid BY PROGRAM, IN A SANDBOX (cutbox-rows.mjs): the forced cells as the released guide's own fill.sh prints them over the translation f0fc96acf4a7a073… (all of the seat's roots in one cut). By AI agents, Wed Nov 11 2026. No macro, syntax, notation, axiom, sorry.
-/
import Derived.Test.YtajkccigmiegkaaDoorChecked
import GoSem.Claim
import GoSem.ClaimJoined
import GoSem.ClaimMapViews
import Derived.JoinedTies
import Derived.KernelRfl
namespace Go.Proofs.YtajkccigmiegkaaDoor
/- THE CELL 'sum', in the pinned program and in every row, IS THE sha256 OF THE DUMP (.gsa) THAT YtajkccigmiegkaaDoorProg.lean LOADS. Nothing in Lean hashes anything: it is a label: what it is worth is what the hold of that sum in a sandbox is worth. -/
noncomputable def Tryd.pinned : Pinned := { name := "ytajkccigmiegkaadoor", sum := "f0fc96acf4a7a073777d00862defe2405eed086ecfe2a7c8fd88c42af1f5d791", checked := Tryd.checked }
namespace Rows
def none {H : Type} : Left H := { results := [], args := [] }

/- WHAT THE LISTED PACKAGE-LEVEL VARIABLES READ AS WHEN THE CALL BEGINS. Each datum BY PROGRAM (the guide's laid-datum.mjs) off the statement by which the dump's own 'gosem.cut.vars' lays the variable. In a bare row this is a premise. The card (YtajkccigmiegkaaDoorCards.lean) ties it to the program's text. -/
def laid_replevin_instr_operations {H : Type} : DataW H := .agg [.agg [.lit (.string [104, 97, 108, 116]), .lit (.int .i64 0), .lit (.int .i64 0), .lit (.int .i64 0)], .agg [.lit (.string [109, 111, 118, 101]), .lit (.int .i64 2), .lit (.int .i64 0), .lit (.int .i64 0)], .agg [.lit (.string [115, 101, 116]), .lit (.int .i64 4), .lit (.int .i64 (-32768)), .lit (.int .i64 32767)], .agg [.lit (.string [104, 105, 103, 104]), .lit (.int .i64 4), .lit (.int .i64 0), .lit (.int .i64 65535)], .agg [.lit (.string [97, 100, 100]), .lit (.int .i64 3), .lit (.int .i64 0), .lit (.int .i64 0)], .agg [.lit (.string [115, 117, 98]), .lit (.int .i64 3), .lit (.int .i64 0), .lit (.int .i64 0)], .agg [.lit (.string [109, 117, 108]), .lit (.int .i64 3), .lit (.int .i64 0), .lit (.int .i64 0)], .agg [.lit (.string [100, 105, 118]), .lit (.int .i64 3), .lit (.int .i64 0), .lit (.int .i64 0)], .agg [.lit (.string [109, 111, 100]), .lit (.int .i64 3), .lit (.int .i64 0), .lit (.int .i64 0)], .agg [.lit (.string [97, 110, 100]), .lit (.int .i64 3), .lit (.int .i64 0), .lit (.int .i64 0)], .agg [.lit (.string [111, 114]), .lit (.int .i64 3), .lit (.int .i64 0), .lit (.int .i64 0)], .agg [.lit (.string [120, 111, 114]), .lit (.int .i64 3), .lit (.int .i64 0), .lit (.int .i64 0)], .agg [.lit (.string [115, 104, 108]), .lit (.int .i64 3), .lit (.int .i64 0), .lit (.int .i64 0)], .agg [.lit (.string [115, 104, 114]), .lit (.int .i64 3), .lit (.int .i64 0), .lit (.int .i64 0)], .agg [.lit (.string [108, 101, 115, 115]), .lit (.int .i64 3), .lit (.int .i64 0), .lit (.int .i64 0)], .agg [.lit (.string [101, 113, 117, 97, 108]), .lit (.int .i64 3), .lit (.int .i64 0), .lit (.int .i64 0)], .agg [.lit (.string [97, 100, 100, 105]), .lit (.int .i64 5), .lit (.int .i64 (-32768)), .lit (.int .i64 32767)], .agg [.lit (.string [108, 111, 97, 100]), .lit (.int .i64 5), .lit (.int .i64 (-32768)), .lit (.int .i64 32767)], .agg [.lit (.string [115, 116, 111, 114, 101]), .lit (.int .i64 5), .lit (.int .i64 (-32768)), .lit (.int .i64 32767)], .agg [.lit (.string [108, 111, 97, 100, 98]), .lit (.int .i64 5), .lit (.int .i64 (-32768)), .lit (.int .i64 32767)], .agg [.lit (.string [115, 116, 111, 114, 101, 98]), .lit (.int .i64 5), .lit (.int .i64 (-32768)), .lit (.int .i64 32767)], .agg [.lit (.string [106, 117, 109, 112]), .lit (.int .i64 6), .lit (.int .i64 0), .lit (.int .i64 4095)], .agg [.lit (.string [106, 117, 109, 112, 122]), .lit (.int .i64 4), .lit (.int .i64 0), .lit (.int .i64 4095)], .agg [.lit (.string [106, 117, 109, 112, 110, 122]), .lit (.int .i64 4), .lit (.int .i64 0), .lit (.int .i64 4095)], .agg [.lit (.string [99, 97, 108, 108]), .lit (.int .i64 4), .lit (.int .i64 0), .lit (.int .i64 4095)], .agg [.lit (.string [98, 97, 99, 107]), .lit (.int .i64 1), .lit (.int .i64 0), .lit (.int .i64 0)], .agg [.lit (.string [116, 114, 97, 112]), .lit (.int .i64 6), .lit (.int .i64 0), .lit (.int .i64 255)]]

/-- 'replevinlaw16.InstrChecks': WHATEVER THE INPUT: true; the input reads as it did. -/
def instrChecksSpec : ChangeSpec := { name := "instrChecks", fn := fun _ => fun
  | [d] => { results := [.lit (.bool true)], args := [d] }
  | _ => none }
def instrChecksRow : OpenClaim := { program := "ytajkccigmiegkaadoor", sum := "f0fc96acf4a7a073777d00862defe2405eed086ecfe2a7c8fd88c42af1f5d791", func := "replevin/replevinlaw16.InstrChecks", spec := "instrChecks", unfollowed := true, recurses := true, named := ["replevin/instr.operations"], apart := false, laid := [("replevin/instr.operations", laid_replevin_instr_operations)] }
def InstrChecksSaid : Prop := instrChecksRow.holds Tryd.pinned (OpenSpec.ofChange instrChecksSpec)

/-- ITS FALSE NEIGHBOUR: 'it returns false'. Refute it at one input. -/
def instrChecksWrong : ChangeSpec := { name := "instrChecks", fn := fun _ => fun
  | [d] => { results := [.lit (.bool false)], args := [d] }
  | _ => none }
def InstrChecksWrongFalsely : Prop := instrChecksRow.holds Tryd.pinned (OpenSpec.ofChange instrChecksWrong)

/-- 'replevinlaw16.InstrForms': WHATEVER THE INPUT: true; the input reads as it did. -/
def instrFormsSpec : ChangeSpec := { name := "instrForms", fn := fun _ => fun
  | [d1, d2] => { results := [.lit (.bool true)], args := [d1, d2] }
  | _ => none }
def instrFormsRow : OpenClaim := { program := "ytajkccigmiegkaadoor", sum := "f0fc96acf4a7a073777d00862defe2405eed086ecfe2a7c8fd88c42af1f5d791", func := "replevin/replevinlaw16.InstrForms", spec := "instrForms", unfollowed := true, recurses := true, named := ["replevin/instr.operations"], apart := false, laid := [("replevin/instr.operations", laid_replevin_instr_operations)] }
def InstrFormsSaid : Prop := instrFormsRow.holds Tryd.pinned (OpenSpec.ofChange instrFormsSpec)

/-- ITS FALSE NEIGHBOUR: 'it returns false'. Refute it at one input. -/
def instrFormsWrong : ChangeSpec := { name := "instrForms", fn := fun _ => fun
  | [d1, d2] => { results := [.lit (.bool false)], args := [d1, d2] }
  | _ => none }
def InstrFormsWrongFalsely : Prop := instrFormsRow.holds Tryd.pinned (OpenSpec.ofChange instrFormsWrong)

/-- 'replevinlaw16.InstrEncodes': WHATEVER THE INPUT: true; the input reads as it did. -/
def instrEncodesSpec : ChangeSpec := { name := "instrEncodes", fn := fun _ => fun
  | [d] => { results := [.lit (.bool true)], args := [d] }
  | _ => none }
def instrEncodesRow : OpenClaim := { program := "ytajkccigmiegkaadoor", sum := "f0fc96acf4a7a073777d00862defe2405eed086ecfe2a7c8fd88c42af1f5d791", func := "replevin/replevinlaw16.InstrEncodes", spec := "instrEncodes", unfollowed := true, recurses := true, named := ["replevin/instr.operations"], apart := false, laid := [("replevin/instr.operations", laid_replevin_instr_operations)] }
def InstrEncodesSaid : Prop := instrEncodesRow.holds Tryd.pinned (OpenSpec.ofChange instrEncodesSpec)

/-- ITS FALSE NEIGHBOUR: 'it returns false'. Refute it at one input. -/
def instrEncodesWrong : ChangeSpec := { name := "instrEncodes", fn := fun _ => fun
  | [d] => { results := [.lit (.bool false)], args := [d] }
  | _ => none }
def InstrEncodesWrongFalsely : Prop := instrEncodesRow.holds Tryd.pinned (OpenSpec.ofChange instrEncodesWrong)

/-- 'replevinlaw16.InstrDecodes': WHATEVER THE INPUT: true; the input reads as it did. -/
def instrDecodesSpec : ChangeSpec := { name := "instrDecodes", fn := fun _ => fun
  | [d] => { results := [.lit (.bool true)], args := [d] }
  | _ => none }
def instrDecodesRow : OpenClaim := { program := "ytajkccigmiegkaadoor", sum := "f0fc96acf4a7a073777d00862defe2405eed086ecfe2a7c8fd88c42af1f5d791", func := "replevin/replevinlaw16.InstrDecodes", spec := "instrDecodes", unfollowed := true, recurses := true, named := ["replevin/instr.operations"], apart := false, laid := [("replevin/instr.operations", laid_replevin_instr_operations)] }
def InstrDecodesSaid : Prop := instrDecodesRow.holds Tryd.pinned (OpenSpec.ofChange instrDecodesSpec)

/-- ITS FALSE NEIGHBOUR: 'it returns false'. Refute it at one input. -/
def instrDecodesWrong : ChangeSpec := { name := "instrDecodes", fn := fun _ => fun
  | [d] => { results := [.lit (.bool false)], args := [d] }
  | _ => none }
def InstrDecodesWrongFalsely : Prop := instrDecodesRow.holds Tryd.pinned (OpenSpec.ofChange instrDecodesWrong)

/-- 'replevinlaw16.InstrLists': WHATEVER THE INPUT: true; the input reads as it did. -/
def instrListsSpec : ChangeSpec := { name := "instrLists", fn := fun _ => fun
  | [d] => { results := [.lit (.bool true)], args := [d] }
  | _ => none }
def instrListsRow : OpenClaim := { program := "ytajkccigmiegkaadoor", sum := "f0fc96acf4a7a073777d00862defe2405eed086ecfe2a7c8fd88c42af1f5d791", func := "replevin/replevinlaw16.InstrLists", spec := "instrLists", unfollowed := true, recurses := true, named := ["replevin/instr.operations"], apart := false, laid := [("replevin/instr.operations", laid_replevin_instr_operations)] }
def InstrListsSaid : Prop := instrListsRow.holds Tryd.pinned (OpenSpec.ofChange instrListsSpec)

/-- ITS FALSE NEIGHBOUR: 'it returns false'. Refute it at one input. -/
def instrListsWrong : ChangeSpec := { name := "instrLists", fn := fun _ => fun
  | [d] => { results := [.lit (.bool false)], args := [d] }
  | _ => none }
def InstrListsWrongFalsely : Prop := instrListsRow.holds Tryd.pinned (OpenSpec.ofChange instrListsWrong)

/-- 'replevinlaw16.InstrBytes': WHATEVER THE INPUT: true; the input reads as it did. -/
def instrBytesSpec : ChangeSpec := { name := "instrBytes", fn := fun _ => fun
  | [d] => { results := [.lit (.bool true)], args := [d] }
  | _ => none }
def instrBytesRow : OpenClaim := { program := "ytajkccigmiegkaadoor", sum := "f0fc96acf4a7a073777d00862defe2405eed086ecfe2a7c8fd88c42af1f5d791", func := "replevin/replevinlaw16.InstrBytes", spec := "instrBytes", unfollowed := true, recurses := true, named := ["replevin/instr.operations"], apart := false, laid := [("replevin/instr.operations", laid_replevin_instr_operations)] }
def InstrBytesSaid : Prop := instrBytesRow.holds Tryd.pinned (OpenSpec.ofChange instrBytesSpec)

/-- ITS FALSE NEIGHBOUR: 'it returns false'. Refute it at one input. -/
def instrBytesWrong : ChangeSpec := { name := "instrBytes", fn := fun _ => fun
  | [d] => { results := [.lit (.bool false)], args := [d] }
  | _ => none }
def InstrBytesWrongFalsely : Prop := instrBytesRow.holds Tryd.pinned (OpenSpec.ofChange instrBytesWrong)

/-- 'replevinlaw16.InstrCalculates': WHATEVER THE INPUT: true; the input reads as it did. -/
def instrCalculatesSpec : ChangeSpec := { name := "instrCalculates", fn := fun _ => fun
  | [d1, d2, d3] => { results := [.lit (.bool true)], args := [d1, d2, d3] }
  | _ => none }
def instrCalculatesRow : OpenClaim := { program := "ytajkccigmiegkaadoor", sum := "f0fc96acf4a7a073777d00862defe2405eed086ecfe2a7c8fd88c42af1f5d791", func := "replevin/replevinlaw16.InstrCalculates", spec := "instrCalculates", unfollowed := true, recurses := true, named := ["replevin/instr.operations"], apart := false, laid := [("replevin/instr.operations", laid_replevin_instr_operations)] }
def InstrCalculatesSaid : Prop := instrCalculatesRow.holds Tryd.pinned (OpenSpec.ofChange instrCalculatesSpec)

/-- ITS FALSE NEIGHBOUR: 'it returns false'. Refute it at one input. -/
def instrCalculatesWrong : ChangeSpec := { name := "instrCalculates", fn := fun _ => fun
  | [d1, d2, d3] => { results := [.lit (.bool false)], args := [d1, d2, d3] }
  | _ => none }
def InstrCalculatesWrongFalsely : Prop := instrCalculatesRow.holds Tryd.pinned (OpenSpec.ofChange instrCalculatesWrong)

/-- 'replevinlaw16.InstrArithmetic': WHATEVER THE INPUT: true; the input reads as it did. -/
def instrArithmeticSpec : ChangeSpec := { name := "instrArithmetic", fn := fun _ => fun
  | [d1, d2] => { results := [.lit (.bool true)], args := [d1, d2] }
  | _ => none }
def instrArithmeticRow : OpenClaim := { program := "ytajkccigmiegkaadoor", sum := "f0fc96acf4a7a073777d00862defe2405eed086ecfe2a7c8fd88c42af1f5d791", func := "replevin/replevinlaw16.InstrArithmetic", spec := "instrArithmetic", unfollowed := true, recurses := true, named := ["replevin/instr.operations"], apart := false, laid := [("replevin/instr.operations", laid_replevin_instr_operations)] }
def InstrArithmeticSaid : Prop := instrArithmeticRow.holds Tryd.pinned (OpenSpec.ofChange instrArithmeticSpec)

/-- ITS FALSE NEIGHBOUR: 'it returns false'. Refute it at one input. -/
def instrArithmeticWrong : ChangeSpec := { name := "instrArithmetic", fn := fun _ => fun
  | [d1, d2] => { results := [.lit (.bool false)], args := [d1, d2] }
  | _ => none }
def InstrArithmeticWrongFalsely : Prop := instrArithmeticRow.holds Tryd.pinned (OpenSpec.ofChange instrArithmeticWrong)

/-- 'replevinlaw16.InstrNumbers': WHATEVER THE INPUT: true; the input reads as it did. -/
def instrNumbersSpec : ChangeSpec := { name := "instrNumbers", fn := fun _ => fun
  | [d1, d2] => { results := [.lit (.bool true)], args := [d1, d2] }
  | _ => none }
def instrNumbersRow : OpenClaim := { program := "ytajkccigmiegkaadoor", sum := "f0fc96acf4a7a073777d00862defe2405eed086ecfe2a7c8fd88c42af1f5d791", func := "replevin/replevinlaw16.InstrNumbers", spec := "instrNumbers", unfollowed := true, recurses := true, named := ["replevin/instr.operations"], apart := false, laid := [("replevin/instr.operations", laid_replevin_instr_operations)] }
def InstrNumbersSaid : Prop := instrNumbersRow.holds Tryd.pinned (OpenSpec.ofChange instrNumbersSpec)

/-- ITS FALSE NEIGHBOUR: 'it returns false'. Refute it at one input. -/
def instrNumbersWrong : ChangeSpec := { name := "instrNumbers", fn := fun _ => fun
  | [d1, d2] => { results := [.lit (.bool false)], args := [d1, d2] }
  | _ => none }
def InstrNumbersWrongFalsely : Prop := instrNumbersRow.holds Tryd.pinned (OpenSpec.ofChange instrNumbersWrong)

/-- 'replevinlaw16.InstrRegisters': WHATEVER THE INPUT: true; the input reads as it did. -/
def instrRegistersSpec : ChangeSpec := { name := "instrRegisters", fn := fun _ => fun
  | [d] => { results := [.lit (.bool true)], args := [d] }
  | _ => none }
def instrRegistersRow : OpenClaim := { program := "ytajkccigmiegkaadoor", sum := "f0fc96acf4a7a073777d00862defe2405eed086ecfe2a7c8fd88c42af1f5d791", func := "replevin/replevinlaw16.InstrRegisters", spec := "instrRegisters", unfollowed := true, recurses := true, named := ["replevin/instr.operations"], apart := false, laid := [("replevin/instr.operations", laid_replevin_instr_operations)] }
def InstrRegistersSaid : Prop := instrRegistersRow.holds Tryd.pinned (OpenSpec.ofChange instrRegistersSpec)

/-- ITS FALSE NEIGHBOUR: 'it returns false'. Refute it at one input. -/
def instrRegistersWrong : ChangeSpec := { name := "instrRegisters", fn := fun _ => fun
  | [d] => { results := [.lit (.bool false)], args := [d] }
  | _ => none }
def InstrRegistersWrongFalsely : Prop := instrRegistersRow.holds Tryd.pinned (OpenSpec.ofChange instrRegistersWrong)

/- THE SECOND FORM. 'bulk': how many values and letters a reading holds, each counted each time it is reached (what is shared counts as often as it is met; a slice's spare places count too). A statement '..UptoSaid' is the law's where the arguments, and the package variables that the reading takes, are together of bulk at most 1048576: NARROWER than '..Said'. Prove '..Said' where nothing that the law and all that it calls make is longer than what came in: it says more and counts as full. Else prove '..UptoSaid'. A law counts once. -/
mutual
def uptoBulk {H : Type} : DataW H → Nat
  | .lit (.string bytes) => bytes.length + 1
  | .lit _ => 1
  | .nil => 1
  | .ptr d => uptoBulk d + 1
  | .slice elems spare => uptoBulkAll elems + uptoBulkAll spare + 1
  | .agg parts => uptoBulkAll parts + 1
  | .iface _ d => uptoBulk d + 1
  | .map entries => uptoBulkEntries entries + 1
  | .held _ => 1
def uptoBulkAll {H : Type} : List (DataW H) → Nat
  | [] => 0
  | d :: r => uptoBulk d + uptoBulkAll r
def uptoBulkEntries {H : Type} : List (Lit × DataW H) → Nat
  | [] => 0
  | x :: r => uptoBulkEntry x + uptoBulkEntries r
def uptoBulkEntry {H : Type} : Lit × DataW H → Nat
  | (.string bytes, d) => bytes.length + uptoBulk d + 1
  | (_, d) => uptoBulk d + 1
 end
def uptoSmall : (H : Type) → List (DataW H) → Bool := fun _ ds => decide (uptoBulkAll ds ≤ 1048576)
def OpenSpec.upto (s : _root_.Go.ChangeSpec) : _root_.Go.OpenSpec := { _root_.Go.OpenSpec.ofChange s with cond := some uptoSmall }

/-- 'replevinlaw16.InstrChecks', WHERE WHAT IT READS IS OF BULK AT MOST 1048576: true; the input reads as it did. -/
def instrChecksUptoRow : OpenClaim := { program := "ytajkccigmiegkaadoor", sum := "f0fc96acf4a7a073777d00862defe2405eed086ecfe2a7c8fd88c42af1f5d791", func := "replevin/replevinlaw16.InstrChecks", spec := "instrChecks", unfollowed := true, recurses := true, named := ["replevin/instr.operations"], apart := false, laid := [("replevin/instr.operations", laid_replevin_instr_operations)], narrowed := true }
def InstrChecksUptoSaid : Prop := instrChecksUptoRow.holds Tryd.pinned (OpenSpec.upto instrChecksSpec)

/-- 'replevinlaw16.InstrForms', WHERE WHAT IT READS IS OF BULK AT MOST 1048576: true; the input reads as it did. -/
def instrFormsUptoRow : OpenClaim := { program := "ytajkccigmiegkaadoor", sum := "f0fc96acf4a7a073777d00862defe2405eed086ecfe2a7c8fd88c42af1f5d791", func := "replevin/replevinlaw16.InstrForms", spec := "instrForms", unfollowed := true, recurses := true, named := ["replevin/instr.operations"], apart := false, laid := [("replevin/instr.operations", laid_replevin_instr_operations)], narrowed := true }
def InstrFormsUptoSaid : Prop := instrFormsUptoRow.holds Tryd.pinned (OpenSpec.upto instrFormsSpec)

/-- 'replevinlaw16.InstrEncodes', WHERE WHAT IT READS IS OF BULK AT MOST 1048576: true; the input reads as it did. -/
def instrEncodesUptoRow : OpenClaim := { program := "ytajkccigmiegkaadoor", sum := "f0fc96acf4a7a073777d00862defe2405eed086ecfe2a7c8fd88c42af1f5d791", func := "replevin/replevinlaw16.InstrEncodes", spec := "instrEncodes", unfollowed := true, recurses := true, named := ["replevin/instr.operations"], apart := false, laid := [("replevin/instr.operations", laid_replevin_instr_operations)], narrowed := true }
def InstrEncodesUptoSaid : Prop := instrEncodesUptoRow.holds Tryd.pinned (OpenSpec.upto instrEncodesSpec)

/-- 'replevinlaw16.InstrDecodes', WHERE WHAT IT READS IS OF BULK AT MOST 1048576: true; the input reads as it did. -/
def instrDecodesUptoRow : OpenClaim := { program := "ytajkccigmiegkaadoor", sum := "f0fc96acf4a7a073777d00862defe2405eed086ecfe2a7c8fd88c42af1f5d791", func := "replevin/replevinlaw16.InstrDecodes", spec := "instrDecodes", unfollowed := true, recurses := true, named := ["replevin/instr.operations"], apart := false, laid := [("replevin/instr.operations", laid_replevin_instr_operations)], narrowed := true }
def InstrDecodesUptoSaid : Prop := instrDecodesUptoRow.holds Tryd.pinned (OpenSpec.upto instrDecodesSpec)

/-- 'replevinlaw16.InstrLists', WHERE WHAT IT READS IS OF BULK AT MOST 1048576: true; the input reads as it did. -/
def instrListsUptoRow : OpenClaim := { program := "ytajkccigmiegkaadoor", sum := "f0fc96acf4a7a073777d00862defe2405eed086ecfe2a7c8fd88c42af1f5d791", func := "replevin/replevinlaw16.InstrLists", spec := "instrLists", unfollowed := true, recurses := true, named := ["replevin/instr.operations"], apart := false, laid := [("replevin/instr.operations", laid_replevin_instr_operations)], narrowed := true }
def InstrListsUptoSaid : Prop := instrListsUptoRow.holds Tryd.pinned (OpenSpec.upto instrListsSpec)

/-- 'replevinlaw16.InstrBytes', WHERE WHAT IT READS IS OF BULK AT MOST 1048576: true; the input reads as it did. -/
def instrBytesUptoRow : OpenClaim := { program := "ytajkccigmiegkaadoor", sum := "f0fc96acf4a7a073777d00862defe2405eed086ecfe2a7c8fd88c42af1f5d791", func := "replevin/replevinlaw16.InstrBytes", spec := "instrBytes", unfollowed := true, recurses := true, named := ["replevin/instr.operations"], apart := false, laid := [("replevin/instr.operations", laid_replevin_instr_operations)], narrowed := true }
def InstrBytesUptoSaid : Prop := instrBytesUptoRow.holds Tryd.pinned (OpenSpec.upto instrBytesSpec)

/-- 'replevinlaw16.InstrCalculates', WHERE WHAT IT READS IS OF BULK AT MOST 1048576: true; the input reads as it did. -/
def instrCalculatesUptoRow : OpenClaim := { program := "ytajkccigmiegkaadoor", sum := "f0fc96acf4a7a073777d00862defe2405eed086ecfe2a7c8fd88c42af1f5d791", func := "replevin/replevinlaw16.InstrCalculates", spec := "instrCalculates", unfollowed := true, recurses := true, named := ["replevin/instr.operations"], apart := false, laid := [("replevin/instr.operations", laid_replevin_instr_operations)], narrowed := true }
def InstrCalculatesUptoSaid : Prop := instrCalculatesUptoRow.holds Tryd.pinned (OpenSpec.upto instrCalculatesSpec)

/-- 'replevinlaw16.InstrArithmetic', WHERE WHAT IT READS IS OF BULK AT MOST 1048576: true; the input reads as it did. -/
def instrArithmeticUptoRow : OpenClaim := { program := "ytajkccigmiegkaadoor", sum := "f0fc96acf4a7a073777d00862defe2405eed086ecfe2a7c8fd88c42af1f5d791", func := "replevin/replevinlaw16.InstrArithmetic", spec := "instrArithmetic", unfollowed := true, recurses := true, named := ["replevin/instr.operations"], apart := false, laid := [("replevin/instr.operations", laid_replevin_instr_operations)], narrowed := true }
def InstrArithmeticUptoSaid : Prop := instrArithmeticUptoRow.holds Tryd.pinned (OpenSpec.upto instrArithmeticSpec)

/-- 'replevinlaw16.InstrNumbers', WHERE WHAT IT READS IS OF BULK AT MOST 1048576: true; the input reads as it did. -/
def instrNumbersUptoRow : OpenClaim := { program := "ytajkccigmiegkaadoor", sum := "f0fc96acf4a7a073777d00862defe2405eed086ecfe2a7c8fd88c42af1f5d791", func := "replevin/replevinlaw16.InstrNumbers", spec := "instrNumbers", unfollowed := true, recurses := true, named := ["replevin/instr.operations"], apart := false, laid := [("replevin/instr.operations", laid_replevin_instr_operations)], narrowed := true }
def InstrNumbersUptoSaid : Prop := instrNumbersUptoRow.holds Tryd.pinned (OpenSpec.upto instrNumbersSpec)

/-- 'replevinlaw16.InstrRegisters', WHERE WHAT IT READS IS OF BULK AT MOST 1048576: true; the input reads as it did. -/
def instrRegistersUptoRow : OpenClaim := { program := "ytajkccigmiegkaadoor", sum := "f0fc96acf4a7a073777d00862defe2405eed086ecfe2a7c8fd88c42af1f5d791", func := "replevin/replevinlaw16.InstrRegisters", spec := "instrRegisters", unfollowed := true, recurses := true, named := ["replevin/instr.operations"], apart := false, laid := [("replevin/instr.operations", laid_replevin_instr_operations)], narrowed := true }
def InstrRegistersUptoSaid : Prop := instrRegistersUptoRow.holds Tryd.pinned (OpenSpec.upto instrRegistersSpec)

end Rows
end Go.Proofs.YtajkccigmiegkaaDoor
