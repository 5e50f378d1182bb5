/-
  NARROWER THAN 'FOR EVERY INPUT', by the rows' own cells (each row's printed sentence says how): PrinterPrints: laid · NamesPlans: laid.
  DERIVED. THE GIVEN ROWS OF THIS SEAT. 2 by the template 'for every input the law returns true; each argument reads behind the call as it read before'; 0 by the template 'total and deterministic' (their statements: YtpgmapjjjpcmfaaGreatDoorTotals.lean).
  GIVEN WITH THE SEED: the statements are not yours to turn. If you find one false, say at which input.
  Laid BY PROGRAM, IN A SANDBOX (cutbox-rows.mjs): the forced cells as the released guide's own fill.sh prints them over the translation e67542c1d1c38f65… (all of the seat's roots in one cut). By AI agents, Wed Nov 11 2026. No macro, syntax, notation, axiom, sorry.
-/
import Derived.Test.YtpgmapjjjpcmfaaGreatDoorChecked
import GoSem.Claim
import GoSem.ClaimJoined
import GoSem.ClaimMapViews
import Derived.JoinedTies
import Derived.KernelRfl
namespace Go.Proofs.YtpgmapjjjpcmfaaGreatDoor
/- THE CELL 'sum', in the pinned program and in every row, IS THE sha256 OF THE DUMP (.gsa) THAT YtpgmapjjjpcmfaaGreatDoorProg.lean LOADS. Nothing in Lean hashes anything: it is a label: what it is worth is what the hold of that sum in a sandbox is worth. -/
noncomputable def Tryz.pinned : Pinned := { name := "ytpgmapjjjpcmfaagreatdoor", sum := "e67542c1d1c38f65b0a84f63999fcec5004710a879fcb8a8c27fd86fa93f7247", checked := Tryz.checked }
namespace Rows
def none {H : Type} : Left H := { results := [], args := [] }

/- WHAT THE LISTED PACKAGE-LEVEL VARIABLES READ AS WHEN THE CALL BEGINS. Each datum BY PROGRAM (the guide's laid-datum.mjs) off the statement by which the dump's own 'gosem.cut.vars' lays the variable. In a bare row this is a premise. The card (YtpgmapjjjpcmfaaGreatDoorCards.lean) ties it to the program's text. -/
def laid_tronage_lexer_escapes {H : Type} : DataW H := .agg [.agg [.lit (.int .i64 3), .lit (.int .u8 92), .lit (.int .u8 92)], .agg [.lit (.int .i64 3), .lit (.int .u8 34), .lit (.int .u8 34)], .agg [.lit (.int .i64 3), .lit (.int .u8 110), .lit (.int .u8 10)], .agg [.lit (.int .i64 3), .lit (.int .u8 116), .lit (.int .u8 9)], .agg [.lit (.int .i64 4), .lit (.int .u8 92), .lit (.int .u8 92)], .agg [.lit (.int .i64 4), .lit (.int .u8 93), .lit (.int .u8 93)], .agg [.lit (.int .i64 4), .lit (.int .u8 45), .lit (.int .u8 45)], .agg [.lit (.int .i64 4), .lit (.int .u8 110), .lit (.int .u8 10)], .agg [.lit (.int .i64 4), .lit (.int .u8 116), .lit (.int .u8 9)]]

/-- 'tronagelaw07.PrinterPrints': WHATEVER THE INPUT: true; the input reads as it did. -/
def printerPrintsSpec : ChangeSpec := { name := "printerPrints", fn := fun _ => fun
  | [d] => { results := [.lit (.bool true)], args := [d] }
  | _ => none }
def printerPrintsRow : OpenClaim := { program := "ytpgmapjjjpcmfaagreatdoor", sum := "e67542c1d1c38f65b0a84f63999fcec5004710a879fcb8a8c27fd86fa93f7247", func := "tronage/tronagelaw07.PrinterPrints", spec := "printerPrints", inPlace := ["internal/bytealg.IndexByteString", "internal/bytealg.IndexString", "internal/abi.NoEscape", "internal/bytealg.MakeNoZero"], unfollowed := true, recurses := true, named := ["internal/bytealg.MaxLen", "tronage/lexer.escapes"], apart := false, laid := [("tronage/lexer.escapes", laid_tronage_lexer_escapes)] }
def PrinterPrintsSaid : Prop := printerPrintsRow.holds Tryz.pinned (OpenSpec.ofChange printerPrintsSpec)

/-- ITS FALSE NEIGHBOUR: 'it returns false'. Refute it at one input. -/
def printerPrintsWrong : ChangeSpec := { name := "printerPrints", fn := fun _ => fun
  | [d] => { results := [.lit (.bool false)], args := [d] }
  | _ => none }
def PrinterPrintsWrongFalsely : Prop := printerPrintsRow.holds Tryz.pinned (OpenSpec.ofChange printerPrintsWrong)

/-- 'tronagelaw08.NamesPlans': WHATEVER THE INPUT: true; the input reads as it did. -/
def namesPlansSpec : ChangeSpec := { name := "namesPlans", fn := fun _ => fun
  | [d] => { results := [.lit (.bool true)], args := [d] }
  | _ => none }
def namesPlansRow : OpenClaim := { program := "ytpgmapjjjpcmfaagreatdoor", sum := "e67542c1d1c38f65b0a84f63999fcec5004710a879fcb8a8c27fd86fa93f7247", func := "tronage/tronagelaw08.NamesPlans", spec := "namesPlans", inPlace := ["internal/bytealg.IndexByteString", "internal/bytealg.IndexString", "internal/abi.NoEscape", "internal/bytealg.MakeNoZero"], unfollowed := true, recurses := true, named := ["internal/bytealg.MaxLen", "tronage/lexer.escapes"], apart := false, laid := [("tronage/lexer.escapes", laid_tronage_lexer_escapes)] }
def NamesPlansSaid : Prop := namesPlansRow.holds Tryz.pinned (OpenSpec.ofChange namesPlansSpec)

/-- ITS FALSE NEIGHBOUR: 'it returns false'. Refute it at one input. -/
def namesPlansWrong : ChangeSpec := { name := "namesPlans", fn := fun _ => fun
  | [d] => { results := [.lit (.bool false)], args := [d] }
  | _ => none }
def NamesPlansWrongFalsely : Prop := namesPlansRow.holds Tryz.pinned (OpenSpec.ofChange namesPlansWrong)

/- THE SECOND FORM. 'bulk': how many values and letters a reading holds, each counted each time it is reached (what is shared counts as often as it is met; a slice's spare places count too). A statement '..UptoSaid' is the law's where the arguments, and the package variables that the reading takes, are together of bulk at most 1048576: NARROWER than '..Said'. Prove '..Said' where nothing that the law and all that it calls make is longer than what came in: it says more and counts as full. Else prove '..UptoSaid'. A law counts once. -/
mutual
def uptoBulk {H : Type} : DataW H → Nat
  | .lit (.string bytes) => bytes.length + 1
  | .lit _ => 1
  | .nil => 1
  | .ptr d => uptoBulk d + 1
  | .slice elems spare => uptoBulkAll elems + uptoBulkAll spare + 1
  | .agg parts => uptoBulkAll parts + 1
  | .iface _ d => uptoBulk d + 1
  | .map entries => uptoBulkEntries entries + 1
  | .held _ => 1
def uptoBulkAll {H : Type} : List (DataW H) → Nat
  | [] => 0
  | d :: r => uptoBulk d + uptoBulkAll r
def uptoBulkEntries {H : Type} : List (Lit × DataW H) → Nat
  | [] => 0
  | x :: r => uptoBulkEntry x + uptoBulkEntries r
def uptoBulkEntry {H : Type} : Lit × DataW H → Nat
  | (.string bytes, d) => bytes.length + uptoBulk d + 1
  | (_, d) => uptoBulk d + 1
 end
def uptoSmall : (H : Type) → List (DataW H) → Bool := fun _ ds => decide (uptoBulkAll ds ≤ 1048576)
def OpenSpec.upto (s : _root_.Go.ChangeSpec) : _root_.Go.OpenSpec := { _root_.Go.OpenSpec.ofChange s with cond := some uptoSmall }

/-- 'tronagelaw07.PrinterPrints', WHERE WHAT IT READS IS OF BULK AT MOST 1048576: true; the input reads as it did. -/
def printerPrintsUptoRow : OpenClaim := { program := "ytpgmapjjjpcmfaagreatdoor", sum := "e67542c1d1c38f65b0a84f63999fcec5004710a879fcb8a8c27fd86fa93f7247", func := "tronage/tronagelaw07.PrinterPrints", spec := "printerPrints", inPlace := ["internal/bytealg.IndexByteString", "internal/bytealg.IndexString", "internal/abi.NoEscape", "internal/bytealg.MakeNoZero"], unfollowed := true, recurses := true, named := ["internal/bytealg.MaxLen", "tronage/lexer.escapes"], apart := false, laid := [("tronage/lexer.escapes", laid_tronage_lexer_escapes)], narrowed := true }
def PrinterPrintsUptoSaid : Prop := printerPrintsUptoRow.holds Tryz.pinned (OpenSpec.upto printerPrintsSpec)

/-- 'tronagelaw08.NamesPlans', WHERE WHAT IT READS IS OF BULK AT MOST 1048576: true; the input reads as it did. -/
def namesPlansUptoRow : OpenClaim := { program := "ytpgmapjjjpcmfaagreatdoor", sum := "e67542c1d1c38f65b0a84f63999fcec5004710a879fcb8a8c27fd86fa93f7247", func := "tronage/tronagelaw08.NamesPlans", spec := "namesPlans", inPlace := ["internal/bytealg.IndexByteString", "internal/bytealg.IndexString", "internal/abi.NoEscape", "internal/bytealg.MakeNoZero"], unfollowed := true, recurses := true, named := ["internal/bytealg.MaxLen", "tronage/lexer.escapes"], apart := false, laid := [("tronage/lexer.escapes", laid_tronage_lexer_escapes)], narrowed := true }
def NamesPlansUptoSaid : Prop := namesPlansUptoRow.holds Tryz.pinned (OpenSpec.upto namesPlansSpec)

end Rows
end Go.Proofs.YtpgmapjjjpcmfaaGreatDoor
