/-
  No cell of these rows narrows 'for every input' (looked for: loops, veiled, ifaces, maps, wideKeys, modest, calm, conditions, laid).
  DERIVED. THE GIVEN ROWS OF THIS SEAT. 5 by the template 'for every input the law returns true; each argument reads behind the call as it read before'; 0 by the template 'total and deterministic' (their statements: YtddjmhhdpfebkaaTotals.lean).
  GIVEN WITH THE SEED: the statements are not yours to turn. If you find one false, say at which input.
  Laid BY PROGRAM, IN A SANDBOX (cutbox-rows.mjs): the forced cells as the released guide's own fill.sh prints them over the translation 71ae2e1510221f2a… (all of the seat's roots in one cut). By AI agents, Wed Nov 11 2026. No macro, syntax, notation, axiom, sorry.
-/
import Derived.Test.YtddjmhhdpfebkaaChecked
import GoSem.Claim
import GoSem.ClaimJoined
import GoSem.ClaimMapViews
import Derived.JoinedTies
import Derived.KernelRfl
namespace Go.Proofs.Ytddjmhhdpfebkaa
/- THE CELL 'sum', in the pinned program and in every row, IS THE sha256 OF THE DUMP (.gsa) THAT YtddjmhhdpfebkaaProg.lean LOADS. Nothing in Lean hashes anything: it is a label: what it is worth is what the hold of that sum in a sandbox is worth. -/
noncomputable def Try.pinned : Pinned := { name := "ytddjmhhdpfebkaa", sum := "71ae2e1510221f2a0d4d002f1f1c0b937981ed629a2799a25e8961567e6476aa", checked := Try.checked }
namespace Rows
def none {H : Type} : Left H := { results := [], args := [] }

/-- 'tronagelaw17.ScanScans': WHATEVER THE INPUT: true; the input reads as it did. -/
def scanScansSpec : ChangeSpec := { name := "scanScans", fn := fun _ => fun
  | [d1, d2, d3] => { results := [.lit (.bool true)], args := [d1, d2, d3] }
  | _ => none }
def scanScansRow : OpenClaim := { program := "ytddjmhhdpfebkaa", sum := "71ae2e1510221f2a0d4d002f1f1c0b937981ed629a2799a25e8961567e6476aa", func := "tronage/tronagelaw17.ScanScans", spec := "scanScans", unfollowed := true, recurses := true, apart := false }
def ScanScansSaid : Prop := scanScansRow.holds Try.pinned (OpenSpec.ofChange scanScansSpec)

/-- ITS FALSE NEIGHBOUR: 'it returns false'. Refute it at one input. -/
def scanScansWrong : ChangeSpec := { name := "scanScans", fn := fun _ => fun
  | [d1, d2, d3] => { results := [.lit (.bool false)], args := [d1, d2, d3] }
  | _ => none }
def ScanScansWrongFalsely : Prop := scanScansRow.holds Try.pinned (OpenSpec.ofChange scanScansWrong)

/-- 'tronagelaw17.ScanCovers': WHATEVER THE INPUT: true; the input reads as it did. -/
def scanCoversSpec : ChangeSpec := { name := "scanCovers", fn := fun _ => fun
  | [d1, d2, d3] => { results := [.lit (.bool true)], args := [d1, d2, d3] }
  | _ => none }
def scanCoversRow : OpenClaim := { program := "ytddjmhhdpfebkaa", sum := "71ae2e1510221f2a0d4d002f1f1c0b937981ed629a2799a25e8961567e6476aa", func := "tronage/tronagelaw17.ScanCovers", spec := "scanCovers", unfollowed := true, recurses := true, apart := false }
def ScanCoversSaid : Prop := scanCoversRow.holds Try.pinned (OpenSpec.ofChange scanCoversSpec)

/-- ITS FALSE NEIGHBOUR: 'it returns false'. Refute it at one input. -/
def scanCoversWrong : ChangeSpec := { name := "scanCovers", fn := fun _ => fun
  | [d1, d2, d3] => { results := [.lit (.bool false)], args := [d1, d2, d3] }
  | _ => none }
def ScanCoversWrongFalsely : Prop := scanCoversRow.holds Try.pinned (OpenSpec.ofChange scanCoversWrong)

/-- 'tronagelaw17.ScanLongest': WHATEVER THE INPUT: true; the input reads as it did. -/
def scanLongestSpec : ChangeSpec := { name := "scanLongest", fn := fun _ => fun
  | [d1, d2, d3] => { results := [.lit (.bool true)], args := [d1, d2, d3] }
  | _ => none }
def scanLongestRow : OpenClaim := { program := "ytddjmhhdpfebkaa", sum := "71ae2e1510221f2a0d4d002f1f1c0b937981ed629a2799a25e8961567e6476aa", func := "tronage/tronagelaw17.ScanLongest", spec := "scanLongest", unfollowed := true, recurses := true, apart := false }
def ScanLongestSaid : Prop := scanLongestRow.holds Try.pinned (OpenSpec.ofChange scanLongestSpec)

/-- ITS FALSE NEIGHBOUR: 'it returns false'. Refute it at one input. -/
def scanLongestWrong : ChangeSpec := { name := "scanLongest", fn := fun _ => fun
  | [d1, d2, d3] => { results := [.lit (.bool false)], args := [d1, d2, d3] }
  | _ => none }
def ScanLongestWrongFalsely : Prop := scanLongestRow.holds Try.pinned (OpenSpec.ofChange scanLongestWrong)

/-- 'tronagelaw17.ScanGoesOn': WHATEVER THE INPUT: true; the input reads as it did. -/
def scanGoesOnSpec : ChangeSpec := { name := "scanGoesOn", fn := fun _ => fun
  | [d1, d2, d3, d4, d5] => { results := [.lit (.bool true)], args := [d1, d2, d3, d4, d5] }
  | _ => none }
def scanGoesOnRow : OpenClaim := { program := "ytddjmhhdpfebkaa", sum := "71ae2e1510221f2a0d4d002f1f1c0b937981ed629a2799a25e8961567e6476aa", func := "tronage/tronagelaw17.ScanGoesOn", spec := "scanGoesOn", unfollowed := true, recurses := true, apart := false }
def ScanGoesOnSaid : Prop := scanGoesOnRow.holds Try.pinned (OpenSpec.ofChange scanGoesOnSpec)

/-- ITS FALSE NEIGHBOUR: 'it returns false'. Refute it at one input. -/
def scanGoesOnWrong : ChangeSpec := { name := "scanGoesOn", fn := fun _ => fun
  | [d1, d2, d3, d4, d5] => { results := [.lit (.bool false)], args := [d1, d2, d3, d4, d5] }
  | _ => none }
def ScanGoesOnWrongFalsely : Prop := scanGoesOnRow.holds Try.pinned (OpenSpec.ofChange scanGoesOnWrong)

/-- 'tronagelaw17.ScanTexts': WHATEVER THE INPUT: true; the input reads as it did. -/
def scanTextsSpec : ChangeSpec := { name := "scanTexts", fn := fun _ => fun
  | [d1, d2] => { results := [.lit (.bool true)], args := [d1, d2] }
  | _ => none }
def scanTextsRow : OpenClaim := { program := "ytddjmhhdpfebkaa", sum := "71ae2e1510221f2a0d4d002f1f1c0b937981ed629a2799a25e8961567e6476aa", func := "tronage/tronagelaw17.ScanTexts", spec := "scanTexts", unfollowed := true, recurses := true, apart := false }
def ScanTextsSaid : Prop := scanTextsRow.holds Try.pinned (OpenSpec.ofChange scanTextsSpec)

/-- ITS FALSE NEIGHBOUR: 'it returns false'. Refute it at one input. -/
def scanTextsWrong : ChangeSpec := { name := "scanTexts", fn := fun _ => fun
  | [d1, d2] => { results := [.lit (.bool false)], args := [d1, d2] }
  | _ => none }
def ScanTextsWrongFalsely : Prop := scanTextsRow.holds Try.pinned (OpenSpec.ofChange scanTextsWrong)

/- THE SECOND FORM. 'bulk': how many values and letters a reading holds, each counted each time it is reached (what is shared counts as often as it is met; a slice's spare places count too). A statement '..UptoSaid' is the law's where the arguments, and the package variables that the reading takes, are together of bulk at most 1048576: NARROWER than '..Said'. Prove '..Said' where nothing that the law and all that it calls make is longer than what came in: it says more and counts as full. Else prove '..UptoSaid'. A law counts once. -/
mutual
def uptoBulk {H : Type} : DataW H → Nat
  | .lit (.string bytes) => bytes.length + 1
  | .lit _ => 1
  | .nil => 1
  | .ptr d => uptoBulk d + 1
  | .slice elems spare => uptoBulkAll elems + uptoBulkAll spare + 1
  | .agg parts => uptoBulkAll parts + 1
  | .iface _ d => uptoBulk d + 1
  | .map entries => uptoBulkEntries entries + 1
  | .held _ => 1
def uptoBulkAll {H : Type} : List (DataW H) → Nat
  | [] => 0
  | d :: r => uptoBulk d + uptoBulkAll r
def uptoBulkEntries {H : Type} : List (Lit × DataW H) → Nat
  | [] => 0
  | x :: r => uptoBulkEntry x + uptoBulkEntries r
def uptoBulkEntry {H : Type} : Lit × DataW H → Nat
  | (.string bytes, d) => bytes.length + uptoBulk d + 1
  | (_, d) => uptoBulk d + 1
 end
def uptoSmall : (H : Type) → List (DataW H) → Bool := fun _ ds => decide (uptoBulkAll ds ≤ 1048576)
def OpenSpec.upto (s : _root_.Go.ChangeSpec) : _root_.Go.OpenSpec := { _root_.Go.OpenSpec.ofChange s with cond := some uptoSmall }

/-- 'tronagelaw17.ScanScans', WHERE WHAT IT READS IS OF BULK AT MOST 1048576: true; the input reads as it did. -/
def scanScansUptoRow : OpenClaim := { program := "ytddjmhhdpfebkaa", sum := "71ae2e1510221f2a0d4d002f1f1c0b937981ed629a2799a25e8961567e6476aa", func := "tronage/tronagelaw17.ScanScans", spec := "scanScans", unfollowed := true, recurses := true, apart := false, narrowed := true }
def ScanScansUptoSaid : Prop := scanScansUptoRow.holds Try.pinned (OpenSpec.upto scanScansSpec)

/-- 'tronagelaw17.ScanCovers', WHERE WHAT IT READS IS OF BULK AT MOST 1048576: true; the input reads as it did. -/
def scanCoversUptoRow : OpenClaim := { program := "ytddjmhhdpfebkaa", sum := "71ae2e1510221f2a0d4d002f1f1c0b937981ed629a2799a25e8961567e6476aa", func := "tronage/tronagelaw17.ScanCovers", spec := "scanCovers", unfollowed := true, recurses := true, apart := false, narrowed := true }
def ScanCoversUptoSaid : Prop := scanCoversUptoRow.holds Try.pinned (OpenSpec.upto scanCoversSpec)

/-- 'tronagelaw17.ScanLongest', WHERE WHAT IT READS IS OF BULK AT MOST 1048576: true; the input reads as it did. -/
def scanLongestUptoRow : OpenClaim := { program := "ytddjmhhdpfebkaa", sum := "71ae2e1510221f2a0d4d002f1f1c0b937981ed629a2799a25e8961567e6476aa", func := "tronage/tronagelaw17.ScanLongest", spec := "scanLongest", unfollowed := true, recurses := true, apart := false, narrowed := true }
def ScanLongestUptoSaid : Prop := scanLongestUptoRow.holds Try.pinned (OpenSpec.upto scanLongestSpec)

/-- 'tronagelaw17.ScanGoesOn', WHERE WHAT IT READS IS OF BULK AT MOST 1048576: true; the input reads as it did. -/
def scanGoesOnUptoRow : OpenClaim := { program := "ytddjmhhdpfebkaa", sum := "71ae2e1510221f2a0d4d002f1f1c0b937981ed629a2799a25e8961567e6476aa", func := "tronage/tronagelaw17.ScanGoesOn", spec := "scanGoesOn", unfollowed := true, recurses := true, apart := false, narrowed := true }
def ScanGoesOnUptoSaid : Prop := scanGoesOnUptoRow.holds Try.pinned (OpenSpec.upto scanGoesOnSpec)

/-- 'tronagelaw17.ScanTexts', WHERE WHAT IT READS IS OF BULK AT MOST 1048576: true; the input reads as it did. -/
def scanTextsUptoRow : OpenClaim := { program := "ytddjmhhdpfebkaa", sum := "71ae2e1510221f2a0d4d002f1f1c0b937981ed629a2799a25e8961567e6476aa", func := "tronage/tronagelaw17.ScanTexts", spec := "scanTexts", unfollowed := true, recurses := true, apart := false, narrowed := true }
def ScanTextsUptoSaid : Prop := scanTextsUptoRow.holds Try.pinned (OpenSpec.upto scanTextsSpec)

end Rows
end Go.Proofs.Ytddjmhhdpfebkaa
