/-
  NARROWER THAN 'FOR EVERY INPUT', by the rows' own cells (each row's printed sentence says how): BitsetPlays: laid · BitsetEach: laid · BitsetUnion: laid · BitsetOrder: laid · BitsetCopies: laid · BitsetMeets: laid.
  DERIVED. THE GIVEN ROWS OF THIS SEAT. 6 by the template 'for every input the law returns true; each argument reads behind the call as it read before'; 0 by the template 'total and deterministic' (their statements: YtnlpibikonenmaaDoorTotals.lean).
  GIVEN WITH THE SEED: the statements are not yours to turn. If you find one false, say at which input.
  Laid BY PROGRAM, IN A SANDBOX (cutbox-rows.mjs): the forced cells as the released guide's own fill.sh prints them over the translation aa5a5e254a7e7de1… (all of the seat's roots in one cut). By AI agents, Wed Nov 11 2026. No macro, syntax, notation, axiom, sorry.
-/
import Derived.Test.YtnlpibikonenmaaDoorChecked
import GoSem.Claim
import GoSem.ClaimJoined
import GoSem.ClaimMapViews
import Derived.JoinedTies
import Derived.KernelRfl
namespace Go.Proofs.YtnlpibikonenmaaDoor
/- THE CELL 'sum', in the pinned program and in every row, IS THE sha256 OF THE DUMP (.gsa) THAT YtnlpibikonenmaaDoorProg.lean LOADS. Nothing in Lean hashes anything: it is a label: what it is worth is what the hold of that sum in a sandbox is worth. -/
noncomputable def Tryd.pinned : Pinned := { name := "ytnlpibikonenmaadoor", sum := "aa5a5e254a7e7de165d3fa7859e9ec1259e163cb5604750429049aa3868b9195", checked := Tryd.checked }
namespace Rows
def none {H : Type} : Left H := { results := [], args := [] }

/- WHAT THE LISTED PACKAGE-LEVEL VARIABLES READ AS WHEN THE CALL BEGINS. Each datum BY PROGRAM (the guide's laid-datum.mjs) off the statement by which the dump's own 'gosem.cut.vars' lays the variable. In a bare row this is a premise. The card (YtnlpibikonenmaaDoorCards.lean) ties it to the program's text. -/
def laid_math_bits_deBruijn64tab {H : Type} : DataW H := .agg [.lit (.int .u8 0), .lit (.int .u8 1), .lit (.int .u8 56), .lit (.int .u8 2), .lit (.int .u8 57), .lit (.int .u8 49), .lit (.int .u8 28), .lit (.int .u8 3), .lit (.int .u8 61), .lit (.int .u8 58), .lit (.int .u8 42), .lit (.int .u8 50), .lit (.int .u8 38), .lit (.int .u8 29), .lit (.int .u8 17), .lit (.int .u8 4), .lit (.int .u8 62), .lit (.int .u8 47), .lit (.int .u8 59), .lit (.int .u8 36), .lit (.int .u8 45), .lit (.int .u8 43), .lit (.int .u8 51), .lit (.int .u8 22), .lit (.int .u8 53), .lit (.int .u8 39), .lit (.int .u8 33), .lit (.int .u8 30), .lit (.int .u8 24), .lit (.int .u8 18), .lit (.int .u8 12), .lit (.int .u8 5), .lit (.int .u8 63), .lit (.int .u8 55), .lit (.int .u8 48), .lit (.int .u8 27), .lit (.int .u8 60), .lit (.int .u8 41), .lit (.int .u8 37), .lit (.int .u8 16), .lit (.int .u8 46), .lit (.int .u8 35), .lit (.int .u8 44), .lit (.int .u8 21), .lit (.int .u8 52), .lit (.int .u8 32), .lit (.int .u8 23), .lit (.int .u8 11), .lit (.int .u8 54), .lit (.int .u8 26), .lit (.int .u8 40), .lit (.int .u8 15), .lit (.int .u8 34), .lit (.int .u8 20), .lit (.int .u8 31), .lit (.int .u8 10), .lit (.int .u8 25), .lit (.int .u8 14), .lit (.int .u8 19), .lit (.int .u8 9), .lit (.int .u8 13), .lit (.int .u8 8), .lit (.int .u8 7), .lit (.int .u8 6)]

/-- 'tronagelaw03.BitsetPlays': WHATEVER THE INPUT: true; the input reads as it did. -/
def bitsetPlaysSpec : ChangeSpec := { name := "bitsetPlays", fn := fun _ => fun
  | [d1, d2, d3, d4] => { results := [.lit (.bool true)], args := [d1, d2, d3, d4] }
  | _ => none }
def bitsetPlaysRow : OpenClaim := { program := "ytnlpibikonenmaadoor", sum := "aa5a5e254a7e7de165d3fa7859e9ec1259e163cb5604750429049aa3868b9195", func := "tronage/tronagelaw03.BitsetPlays", spec := "bitsetPlays", unfollowed := true, recurses := true, named := ["math/bits.deBruijn64tab"], apart := false, laid := [("math/bits.deBruijn64tab", laid_math_bits_deBruijn64tab)] }
def BitsetPlaysSaid : Prop := bitsetPlaysRow.holds Tryd.pinned (OpenSpec.ofChange bitsetPlaysSpec)

/-- ITS FALSE NEIGHBOUR: 'it returns false'. Refute it at one input. -/
def bitsetPlaysWrong : ChangeSpec := { name := "bitsetPlays", fn := fun _ => fun
  | [d1, d2, d3, d4] => { results := [.lit (.bool false)], args := [d1, d2, d3, d4] }
  | _ => none }
def BitsetPlaysWrongFalsely : Prop := bitsetPlaysRow.holds Tryd.pinned (OpenSpec.ofChange bitsetPlaysWrong)

/-- 'tronagelaw03.BitsetEach': WHATEVER THE INPUT: true; the input reads as it did. -/
def bitsetEachSpec : ChangeSpec := { name := "bitsetEach", fn := fun _ => fun
  | [d1, d2, d3] => { results := [.lit (.bool true)], args := [d1, d2, d3] }
  | _ => none }
def bitsetEachRow : OpenClaim := { program := "ytnlpibikonenmaadoor", sum := "aa5a5e254a7e7de165d3fa7859e9ec1259e163cb5604750429049aa3868b9195", func := "tronage/tronagelaw03.BitsetEach", spec := "bitsetEach", unfollowed := true, recurses := true, named := ["math/bits.deBruijn64tab"], apart := false, laid := [("math/bits.deBruijn64tab", laid_math_bits_deBruijn64tab)] }
def BitsetEachSaid : Prop := bitsetEachRow.holds Tryd.pinned (OpenSpec.ofChange bitsetEachSpec)

/-- ITS FALSE NEIGHBOUR: 'it returns false'. Refute it at one input. -/
def bitsetEachWrong : ChangeSpec := { name := "bitsetEach", fn := fun _ => fun
  | [d1, d2, d3] => { results := [.lit (.bool false)], args := [d1, d2, d3] }
  | _ => none }
def BitsetEachWrongFalsely : Prop := bitsetEachRow.holds Tryd.pinned (OpenSpec.ofChange bitsetEachWrong)

/-- 'tronagelaw03.BitsetUnion': WHATEVER THE INPUT: true; the input reads as it did. -/
def bitsetUnionSpec : ChangeSpec := { name := "bitsetUnion", fn := fun _ => fun
  | [d1, d2, d3, d4] => { results := [.lit (.bool true)], args := [d1, d2, d3, d4] }
  | _ => none }
def bitsetUnionRow : OpenClaim := { program := "ytnlpibikonenmaadoor", sum := "aa5a5e254a7e7de165d3fa7859e9ec1259e163cb5604750429049aa3868b9195", func := "tronage/tronagelaw03.BitsetUnion", spec := "bitsetUnion", unfollowed := true, recurses := true, named := ["math/bits.deBruijn64tab"], apart := false, laid := [("math/bits.deBruijn64tab", laid_math_bits_deBruijn64tab)] }
def BitsetUnionSaid : Prop := bitsetUnionRow.holds Tryd.pinned (OpenSpec.ofChange bitsetUnionSpec)

/-- ITS FALSE NEIGHBOUR: 'it returns false'. Refute it at one input. -/
def bitsetUnionWrong : ChangeSpec := { name := "bitsetUnion", fn := fun _ => fun
  | [d1, d2, d3, d4] => { results := [.lit (.bool false)], args := [d1, d2, d3, d4] }
  | _ => none }
def BitsetUnionWrongFalsely : Prop := bitsetUnionRow.holds Tryd.pinned (OpenSpec.ofChange bitsetUnionWrong)

/-- 'tronagelaw03.BitsetOrder': WHATEVER THE INPUT: true; the input reads as it did. -/
def bitsetOrderSpec : ChangeSpec := { name := "bitsetOrder", fn := fun _ => fun
  | [d1, d2] => { results := [.lit (.bool true)], args := [d1, d2] }
  | _ => none }
def bitsetOrderRow : OpenClaim := { program := "ytnlpibikonenmaadoor", sum := "aa5a5e254a7e7de165d3fa7859e9ec1259e163cb5604750429049aa3868b9195", func := "tronage/tronagelaw03.BitsetOrder", spec := "bitsetOrder", unfollowed := true, recurses := true, named := ["math/bits.deBruijn64tab"], apart := false, laid := [("math/bits.deBruijn64tab", laid_math_bits_deBruijn64tab)] }
def BitsetOrderSaid : Prop := bitsetOrderRow.holds Tryd.pinned (OpenSpec.ofChange bitsetOrderSpec)

/-- ITS FALSE NEIGHBOUR: 'it returns false'. Refute it at one input. -/
def bitsetOrderWrong : ChangeSpec := { name := "bitsetOrder", fn := fun _ => fun
  | [d1, d2] => { results := [.lit (.bool false)], args := [d1, d2] }
  | _ => none }
def BitsetOrderWrongFalsely : Prop := bitsetOrderRow.holds Tryd.pinned (OpenSpec.ofChange bitsetOrderWrong)

/-- 'tronagelaw03.BitsetCopies': WHATEVER THE INPUT: true; the input reads as it did. -/
def bitsetCopiesSpec : ChangeSpec := { name := "bitsetCopies", fn := fun _ => fun
  | [d1, d2, d3, d4] => { results := [.lit (.bool true)], args := [d1, d2, d3, d4] }
  | _ => none }
def bitsetCopiesRow : OpenClaim := { program := "ytnlpibikonenmaadoor", sum := "aa5a5e254a7e7de165d3fa7859e9ec1259e163cb5604750429049aa3868b9195", func := "tronage/tronagelaw03.BitsetCopies", spec := "bitsetCopies", unfollowed := true, recurses := true, named := ["math/bits.deBruijn64tab"], apart := false, laid := [("math/bits.deBruijn64tab", laid_math_bits_deBruijn64tab)] }
def BitsetCopiesSaid : Prop := bitsetCopiesRow.holds Tryd.pinned (OpenSpec.ofChange bitsetCopiesSpec)

/-- ITS FALSE NEIGHBOUR: 'it returns false'. Refute it at one input. -/
def bitsetCopiesWrong : ChangeSpec := { name := "bitsetCopies", fn := fun _ => fun
  | [d1, d2, d3, d4] => { results := [.lit (.bool false)], args := [d1, d2, d3, d4] }
  | _ => none }
def BitsetCopiesWrongFalsely : Prop := bitsetCopiesRow.holds Tryd.pinned (OpenSpec.ofChange bitsetCopiesWrong)

/-- 'tronagelaw03.BitsetMeets': WHATEVER THE INPUT: true; the input reads as it did. -/
def bitsetMeetsSpec : ChangeSpec := { name := "bitsetMeets", fn := fun _ => fun
  | [d1, d2, d3, d4] => { results := [.lit (.bool true)], args := [d1, d2, d3, d4] }
  | _ => none }
def bitsetMeetsRow : OpenClaim := { program := "ytnlpibikonenmaadoor", sum := "aa5a5e254a7e7de165d3fa7859e9ec1259e163cb5604750429049aa3868b9195", func := "tronage/tronagelaw03.BitsetMeets", spec := "bitsetMeets", unfollowed := true, recurses := true, named := ["math/bits.deBruijn64tab"], apart := false, laid := [("math/bits.deBruijn64tab", laid_math_bits_deBruijn64tab)] }
def BitsetMeetsSaid : Prop := bitsetMeetsRow.holds Tryd.pinned (OpenSpec.ofChange bitsetMeetsSpec)

/-- ITS FALSE NEIGHBOUR: 'it returns false'. Refute it at one input. -/
def bitsetMeetsWrong : ChangeSpec := { name := "bitsetMeets", fn := fun _ => fun
  | [d1, d2, d3, d4] => { results := [.lit (.bool false)], args := [d1, d2, d3, d4] }
  | _ => none }
def BitsetMeetsWrongFalsely : Prop := bitsetMeetsRow.holds Tryd.pinned (OpenSpec.ofChange bitsetMeetsWrong)

/- THE SECOND FORM. 'bulk': how many values and letters a reading holds, each counted each time it is reached (what is shared counts as often as it is met; a slice's spare places count too). A statement '..UptoSaid' is the law's where the arguments, and the package variables that the reading takes, are together of bulk at most 1048576: NARROWER than '..Said'. Prove '..Said' where nothing that the law and all that it calls make is longer than what came in: it says more and counts as full. Else prove '..UptoSaid'. A law counts once. -/
mutual
def uptoBulk {H : Type} : DataW H → Nat
  | .lit (.string bytes) => bytes.length + 1
  | .lit _ => 1
  | .nil => 1
  | .ptr d => uptoBulk d + 1
  | .slice elems spare => uptoBulkAll elems + uptoBulkAll spare + 1
  | .agg parts => uptoBulkAll parts + 1
  | .iface _ d => uptoBulk d + 1
  | .map entries => uptoBulkEntries entries + 1
  | .held _ => 1
def uptoBulkAll {H : Type} : List (DataW H) → Nat
  | [] => 0
  | d :: r => uptoBulk d + uptoBulkAll r
def uptoBulkEntries {H : Type} : List (Lit × DataW H) → Nat
  | [] => 0
  | x :: r => uptoBulkEntry x + uptoBulkEntries r
def uptoBulkEntry {H : Type} : Lit × DataW H → Nat
  | (.string bytes, d) => bytes.length + uptoBulk d + 1
  | (_, d) => uptoBulk d + 1
 end
def uptoSmall : (H : Type) → List (DataW H) → Bool := fun _ ds => decide (uptoBulkAll ds ≤ 1048576)
def OpenSpec.upto (s : _root_.Go.ChangeSpec) : _root_.Go.OpenSpec := { _root_.Go.OpenSpec.ofChange s with cond := some uptoSmall }

/-- 'tronagelaw03.BitsetPlays', WHERE WHAT IT READS IS OF BULK AT MOST 1048576: true; the input reads as it did. -/
def bitsetPlaysUptoRow : OpenClaim := { program := "ytnlpibikonenmaadoor", sum := "aa5a5e254a7e7de165d3fa7859e9ec1259e163cb5604750429049aa3868b9195", func := "tronage/tronagelaw03.BitsetPlays", spec := "bitsetPlays", unfollowed := true, recurses := true, named := ["math/bits.deBruijn64tab"], apart := false, laid := [("math/bits.deBruijn64tab", laid_math_bits_deBruijn64tab)], narrowed := true }
def BitsetPlaysUptoSaid : Prop := bitsetPlaysUptoRow.holds Tryd.pinned (OpenSpec.upto bitsetPlaysSpec)

/-- 'tronagelaw03.BitsetEach', WHERE WHAT IT READS IS OF BULK AT MOST 1048576: true; the input reads as it did. -/
def bitsetEachUptoRow : OpenClaim := { program := "ytnlpibikonenmaadoor", sum := "aa5a5e254a7e7de165d3fa7859e9ec1259e163cb5604750429049aa3868b9195", func := "tronage/tronagelaw03.BitsetEach", spec := "bitsetEach", unfollowed := true, recurses := true, named := ["math/bits.deBruijn64tab"], apart := false, laid := [("math/bits.deBruijn64tab", laid_math_bits_deBruijn64tab)], narrowed := true }
def BitsetEachUptoSaid : Prop := bitsetEachUptoRow.holds Tryd.pinned (OpenSpec.upto bitsetEachSpec)

/-- 'tronagelaw03.BitsetUnion', WHERE WHAT IT READS IS OF BULK AT MOST 1048576: true; the input reads as it did. -/
def bitsetUnionUptoRow : OpenClaim := { program := "ytnlpibikonenmaadoor", sum := "aa5a5e254a7e7de165d3fa7859e9ec1259e163cb5604750429049aa3868b9195", func := "tronage/tronagelaw03.BitsetUnion", spec := "bitsetUnion", unfollowed := true, recurses := true, named := ["math/bits.deBruijn64tab"], apart := false, laid := [("math/bits.deBruijn64tab", laid_math_bits_deBruijn64tab)], narrowed := true }
def BitsetUnionUptoSaid : Prop := bitsetUnionUptoRow.holds Tryd.pinned (OpenSpec.upto bitsetUnionSpec)

/-- 'tronagelaw03.BitsetOrder', WHERE WHAT IT READS IS OF BULK AT MOST 1048576: true; the input reads as it did. -/
def bitsetOrderUptoRow : OpenClaim := { program := "ytnlpibikonenmaadoor", sum := "aa5a5e254a7e7de165d3fa7859e9ec1259e163cb5604750429049aa3868b9195", func := "tronage/tronagelaw03.BitsetOrder", spec := "bitsetOrder", unfollowed := true, recurses := true, named := ["math/bits.deBruijn64tab"], apart := false, laid := [("math/bits.deBruijn64tab", laid_math_bits_deBruijn64tab)], narrowed := true }
def BitsetOrderUptoSaid : Prop := bitsetOrderUptoRow.holds Tryd.pinned (OpenSpec.upto bitsetOrderSpec)

/-- 'tronagelaw03.BitsetCopies', WHERE WHAT IT READS IS OF BULK AT MOST 1048576: true; the input reads as it did. -/
def bitsetCopiesUptoRow : OpenClaim := { program := "ytnlpibikonenmaadoor", sum := "aa5a5e254a7e7de165d3fa7859e9ec1259e163cb5604750429049aa3868b9195", func := "tronage/tronagelaw03.BitsetCopies", spec := "bitsetCopies", unfollowed := true, recurses := true, named := ["math/bits.deBruijn64tab"], apart := false, laid := [("math/bits.deBruijn64tab", laid_math_bits_deBruijn64tab)], narrowed := true }
def BitsetCopiesUptoSaid : Prop := bitsetCopiesUptoRow.holds Tryd.pinned (OpenSpec.upto bitsetCopiesSpec)

/-- 'tronagelaw03.BitsetMeets', WHERE WHAT IT READS IS OF BULK AT MOST 1048576: true; the input reads as it did. -/
def bitsetMeetsUptoRow : OpenClaim := { program := "ytnlpibikonenmaadoor", sum := "aa5a5e254a7e7de165d3fa7859e9ec1259e163cb5604750429049aa3868b9195", func := "tronage/tronagelaw03.BitsetMeets", spec := "bitsetMeets", unfollowed := true, recurses := true, named := ["math/bits.deBruijn64tab"], apart := false, laid := [("math/bits.deBruijn64tab", laid_math_bits_deBruijn64tab)], narrowed := true }
def BitsetMeetsUptoSaid : Prop := bitsetMeetsUptoRow.holds Tryd.pinned (OpenSpec.upto bitsetMeetsSpec)

end Rows
end Go.Proofs.YtnlpibikonenmaaDoor
