/-
  NARROWER THAN 'FOR EVERY INPUT', by the rows' own cells (each row's printed sentence says how): ReaderRules: laid · PrinterUnlike: laid · PrinterPatterns: laid.
  DERIVED. THE GIVEN ROWS OF THIS SEAT. 3 by the template 'for every input the law returns true; each argument reads behind the call as it read before'; 0 by the template 'total and deterministic' (their statements: YtgmihbfikggkjaaDoorTotals.lean).
  GIVEN WITH THE SEED: the statements are not yours to turn. If you find one false, say at which input.
  Laid BY PROGRAM, IN A SANDBOX (cutbox-rows.mjs): the forced cells as the released guide's own fill.sh prints them over the translation 5526c23749705009… (all of the seat's roots in one cut). By AI agents, Wed Nov 11 2026. No macro, syntax, notation, axiom, sorry.
-/
import Derived.Test.YtgmihbfikggkjaaDoorChecked
import GoSem.Claim
import GoSem.ClaimJoined
import GoSem.ClaimMapViews
import Derived.JoinedTies
import Derived.KernelRfl
namespace Go.Proofs.YtgmihbfikggkjaaDoor
/- THE CELL 'sum', in the pinned program and in every row, IS THE sha256 OF THE DUMP (.gsa) THAT YtgmihbfikggkjaaDoorProg.lean LOADS. Nothing in Lean hashes anything: it is a label: what it is worth is what the hold of that sum in a sandbox is worth. -/
noncomputable def Tryd.pinned : Pinned := { name := "ytgmihbfikggkjaadoor", sum := "5526c237497050096d8c78e201f7c4cf2e8e4a133f2cc1cdabaf29b8ec602847", checked := Tryd.checked }
namespace Rows
def none {H : Type} : Left H := { results := [], args := [] }

/- WHAT THE LISTED PACKAGE-LEVEL VARIABLES READ AS WHEN THE CALL BEGINS. Each datum BY PROGRAM (the guide's laid-datum.mjs) off the statement by which the dump's own 'gosem.cut.vars' lays the variable. In a bare row this is a premise. The card (YtgmihbfikggkjaaDoorCards.lean) ties it to the program's text. -/
def laid_tronage_lexer_escapes {H : Type} : DataW H := .agg [.agg [.lit (.int .i64 3), .lit (.int .u8 92), .lit (.int .u8 92)], .agg [.lit (.int .i64 3), .lit (.int .u8 34), .lit (.int .u8 34)], .agg [.lit (.int .i64 3), .lit (.int .u8 110), .lit (.int .u8 10)], .agg [.lit (.int .i64 3), .lit (.int .u8 116), .lit (.int .u8 9)], .agg [.lit (.int .i64 4), .lit (.int .u8 92), .lit (.int .u8 92)], .agg [.lit (.int .i64 4), .lit (.int .u8 93), .lit (.int .u8 93)], .agg [.lit (.int .i64 4), .lit (.int .u8 45), .lit (.int .u8 45)], .agg [.lit (.int .i64 4), .lit (.int .u8 110), .lit (.int .u8 10)], .agg [.lit (.int .i64 4), .lit (.int .u8 116), .lit (.int .u8 9)]]

/-- 'tronagelaw06.ReaderRules': WHATEVER THE INPUT: true; the input reads as it did. -/
def readerRulesSpec : ChangeSpec := { name := "readerRules", fn := fun _ => fun
  | [d1, d2, d3] => { results := [.lit (.bool true)], args := [d1, d2, d3] }
  | _ => none }
def readerRulesRow : OpenClaim := { program := "ytgmihbfikggkjaadoor", sum := "5526c237497050096d8c78e201f7c4cf2e8e4a133f2cc1cdabaf29b8ec602847", func := "tronage/tronagelaw06.ReaderRules", spec := "readerRules", inPlace := ["internal/bytealg.IndexByteString", "internal/bytealg.IndexString"], unfollowed := true, recurses := true, named := ["internal/bytealg.MaxLen", "tronage/lexer.escapes"], apart := false, laid := [("tronage/lexer.escapes", laid_tronage_lexer_escapes)] }
def ReaderRulesSaid : Prop := readerRulesRow.holds Tryd.pinned (OpenSpec.ofChange readerRulesSpec)

/-- ITS FALSE NEIGHBOUR: 'it returns false'. Refute it at one input. -/
def readerRulesWrong : ChangeSpec := { name := "readerRules", fn := fun _ => fun
  | [d1, d2, d3] => { results := [.lit (.bool false)], args := [d1, d2, d3] }
  | _ => none }
def ReaderRulesWrongFalsely : Prop := readerRulesRow.holds Tryd.pinned (OpenSpec.ofChange readerRulesWrong)

/-- 'tronagelaw07.PrinterUnlike': WHATEVER THE INPUT: true; the input reads as it did. -/
def printerUnlikeSpec : ChangeSpec := { name := "printerUnlike", fn := fun _ => fun
  | [d1, d2] => { results := [.lit (.bool true)], args := [d1, d2] }
  | _ => none }
def printerUnlikeRow : OpenClaim := { program := "ytgmihbfikggkjaadoor", sum := "5526c237497050096d8c78e201f7c4cf2e8e4a133f2cc1cdabaf29b8ec602847", func := "tronage/tronagelaw07.PrinterUnlike", spec := "printerUnlike", inPlace := ["internal/bytealg.IndexByteString", "internal/bytealg.IndexString", "internal/abi.NoEscape", "internal/bytealg.MakeNoZero"], unfollowed := true, recurses := true, named := ["internal/bytealg.MaxLen", "tronage/lexer.escapes"], apart := false, laid := [("tronage/lexer.escapes", laid_tronage_lexer_escapes)] }
def PrinterUnlikeSaid : Prop := printerUnlikeRow.holds Tryd.pinned (OpenSpec.ofChange printerUnlikeSpec)

/-- ITS FALSE NEIGHBOUR: 'it returns false'. Refute it at one input. -/
def printerUnlikeWrong : ChangeSpec := { name := "printerUnlike", fn := fun _ => fun
  | [d1, d2] => { results := [.lit (.bool false)], args := [d1, d2] }
  | _ => none }
def PrinterUnlikeWrongFalsely : Prop := printerUnlikeRow.holds Tryd.pinned (OpenSpec.ofChange printerUnlikeWrong)

/-- 'tronagelaw07.PrinterPatterns': WHATEVER THE INPUT: true; the input reads as it did. -/
def printerPatternsSpec : ChangeSpec := { name := "printerPatterns", fn := fun _ => fun
  | [d1, d2, d3] => { results := [.lit (.bool true)], args := [d1, d2, d3] }
  | _ => none }
def printerPatternsRow : OpenClaim := { program := "ytgmihbfikggkjaadoor", sum := "5526c237497050096d8c78e201f7c4cf2e8e4a133f2cc1cdabaf29b8ec602847", func := "tronage/tronagelaw07.PrinterPatterns", spec := "printerPatterns", inPlace := ["internal/bytealg.IndexByteString", "internal/bytealg.IndexString", "internal/abi.NoEscape", "internal/bytealg.MakeNoZero"], unfollowed := true, recurses := true, named := ["internal/bytealg.MaxLen", "tronage/lexer.escapes"], apart := false, laid := [("tronage/lexer.escapes", laid_tronage_lexer_escapes)] }
def PrinterPatternsSaid : Prop := printerPatternsRow.holds Tryd.pinned (OpenSpec.ofChange printerPatternsSpec)

/-- ITS FALSE NEIGHBOUR: 'it returns false'. Refute it at one input. -/
def printerPatternsWrong : ChangeSpec := { name := "printerPatterns", fn := fun _ => fun
  | [d1, d2, d3] => { results := [.lit (.bool false)], args := [d1, d2, d3] }
  | _ => none }
def PrinterPatternsWrongFalsely : Prop := printerPatternsRow.holds Tryd.pinned (OpenSpec.ofChange printerPatternsWrong)

/- THE SECOND FORM. 'bulk': how many values and letters a reading holds, each counted each time it is reached (what is shared counts as often as it is met; a slice's spare places count too). A statement '..UptoSaid' is the law's where the arguments, and the package variables that the reading takes, are together of bulk at most 1048576: NARROWER than '..Said'. Prove '..Said' where nothing that the law and all that it calls make is longer than what came in: it says more and counts as full. Else prove '..UptoSaid'. A law counts once. -/
mutual
def uptoBulk {H : Type} : DataW H → Nat
  | .lit (.string bytes) => bytes.length + 1
  | .lit _ => 1
  | .nil => 1
  | .ptr d => uptoBulk d + 1
  | .slice elems spare => uptoBulkAll elems + uptoBulkAll spare + 1
  | .agg parts => uptoBulkAll parts + 1
  | .iface _ d => uptoBulk d + 1
  | .map entries => uptoBulkEntries entries + 1
  | .held _ => 1
def uptoBulkAll {H : Type} : List (DataW H) → Nat
  | [] => 0
  | d :: r => uptoBulk d + uptoBulkAll r
def uptoBulkEntries {H : Type} : List (Lit × DataW H) → Nat
  | [] => 0
  | x :: r => uptoBulkEntry x + uptoBulkEntries r
def uptoBulkEntry {H : Type} : Lit × DataW H → Nat
  | (.string bytes, d) => bytes.length + uptoBulk d + 1
  | (_, d) => uptoBulk d + 1
 end
def uptoSmall : (H : Type) → List (DataW H) → Bool := fun _ ds => decide (uptoBulkAll ds ≤ 1048576)
def OpenSpec.upto (s : _root_.Go.ChangeSpec) : _root_.Go.OpenSpec := { _root_.Go.OpenSpec.ofChange s with cond := some uptoSmall }

/-- 'tronagelaw06.ReaderRules', WHERE WHAT IT READS IS OF BULK AT MOST 1048576: true; the input reads as it did. -/
def readerRulesUptoRow : OpenClaim := { program := "ytgmihbfikggkjaadoor", sum := "5526c237497050096d8c78e201f7c4cf2e8e4a133f2cc1cdabaf29b8ec602847", func := "tronage/tronagelaw06.ReaderRules", spec := "readerRules", inPlace := ["internal/bytealg.IndexByteString", "internal/bytealg.IndexString"], unfollowed := true, recurses := true, named := ["internal/bytealg.MaxLen", "tronage/lexer.escapes"], apart := false, laid := [("tronage/lexer.escapes", laid_tronage_lexer_escapes)], narrowed := true }
def ReaderRulesUptoSaid : Prop := readerRulesUptoRow.holds Tryd.pinned (OpenSpec.upto readerRulesSpec)

/-- 'tronagelaw07.PrinterUnlike', WHERE WHAT IT READS IS OF BULK AT MOST 1048576: true; the input reads as it did. -/
def printerUnlikeUptoRow : OpenClaim := { program := "ytgmihbfikggkjaadoor", sum := "5526c237497050096d8c78e201f7c4cf2e8e4a133f2cc1cdabaf29b8ec602847", func := "tronage/tronagelaw07.PrinterUnlike", spec := "printerUnlike", inPlace := ["internal/bytealg.IndexByteString", "internal/bytealg.IndexString", "internal/abi.NoEscape", "internal/bytealg.MakeNoZero"], unfollowed := true, recurses := true, named := ["internal/bytealg.MaxLen", "tronage/lexer.escapes"], apart := false, laid := [("tronage/lexer.escapes", laid_tronage_lexer_escapes)], narrowed := true }
def PrinterUnlikeUptoSaid : Prop := printerUnlikeUptoRow.holds Tryd.pinned (OpenSpec.upto printerUnlikeSpec)

/-- 'tronagelaw07.PrinterPatterns', WHERE WHAT IT READS IS OF BULK AT MOST 1048576: true; the input reads as it did. -/
def printerPatternsUptoRow : OpenClaim := { program := "ytgmihbfikggkjaadoor", sum := "5526c237497050096d8c78e201f7c4cf2e8e4a133f2cc1cdabaf29b8ec602847", func := "tronage/tronagelaw07.PrinterPatterns", spec := "printerPatterns", inPlace := ["internal/bytealg.IndexByteString", "internal/bytealg.IndexString", "internal/abi.NoEscape", "internal/bytealg.MakeNoZero"], unfollowed := true, recurses := true, named := ["internal/bytealg.MaxLen", "tronage/lexer.escapes"], apart := false, laid := [("tronage/lexer.escapes", laid_tronage_lexer_escapes)], narrowed := true }
def PrinterPatternsUptoSaid : Prop := printerPatternsUptoRow.holds Tryd.pinned (OpenSpec.upto printerPatternsSpec)

end Rows
end Go.Proofs.YtgmihbfikggkjaaDoor
