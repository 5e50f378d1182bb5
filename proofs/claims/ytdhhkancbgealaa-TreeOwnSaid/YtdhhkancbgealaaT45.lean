import Derived.Test.YtdhhkancbgealaaT44
import Derived.Test.YtdhhkancbgealaaT00
import Derived.Test.YtdhhkancbgealaaT30
namespace Go.Proofs.Ytdhhkancbgealaa
set_option maxRecDepth 100000
open Go.ChangeShapes Go.WideShapes Go.ChangeAt Go.RowKit
set_option linter.unusedVariables false
set_option linter.unusedSimpArgs false
theorem cTok : Try.prog.cellsOf 56 = 3 := by kernel_rfl
theorem cInt : Try.prog.cellsOf 3 = 1 := by kernel_rfl
theorem list3Q {α : Type} {l : List α} (h : l.length = 3) : ∃ a b c, l = [a, b, c] := by
 match l, h with
 | [a, b, c], _ => exact ⟨a, b, c, rfl⟩
section
variable {H : Type} {enc : TypeId × Value → H} {W : World} {base : Nat} {v : Value} {d : DataW H} {p : List MemPlace}
theorem open_tok (hv : Value.okWide Try.prog W .any base 56 v) (h : DataW.Trod enc Try.prog W 0 (fun _ => true) true 56 v d p) :
  ∃ a b c : Int, v = .agg #[.int .i64 a, .int .i64 b, .int .i64 c] ∧ (-9223372036854775808 ≤ a ∧ a ≤ 9223372036854775807) ∧ (-9223372036854775808 ≤ b ∧ b ≤ 9223372036854775807) ∧ (-9223372036854775808 ≤ c ∧ c ≤ 9223372036854775807) := by
 obtain ⟨cs, rfl, hcs⟩ := okWide_struct Try.underlying56 hv
 obtain ⟨fuel, ht⟩ := h
 obtain ⟨y0, y1, y2, n, hx, hl, h0, h1, h2⟩ := Go.Deep.trod_struct3 Try.underlying56 ht
 rw [cTok] at hl
 obtain ⟨a, b, c, hcv⟩ := list3Q hl
 rw [hcv] at h0 h1 h2
 have hce : cs = #[a, b, c] := by
  have : cs.toList = [a, b, c] := by simpa [Value.cells] using hcv
  exact Array.toList_inj.1 (by simpa using this)
 subst hce
 have h0 : DataW.trod enc Try.prog W 0 (fun _ => true) true n 3 (([a, b, c].drop 0).take (Try.prog.cellsOf 3)) = some y0 := h0
 have h1 : DataW.trod enc Try.prog W 0 (fun _ => true) true n 3 (([a, b, c].drop 1).take (Try.prog.cellsOf 3)) = some y1 := h1
 have h2 : DataW.trod enc Try.prog W 0 (fun _ => true) true n 3 (([a, b, c].drop 2).take (Try.prog.cellsOf 3)) = some y2 := h2
 rw [cInt] at h0 h1 h2
 obtain ⟨t0, e0, b0⟩ := int_field Try.underlying3 h0
 obtain ⟨t1, e1, b1⟩ := int_field Try.underlying3 h1
 obtain ⟨t2, e2, b2⟩ := int_field Try.underlying3 h2
 subst e0 e1 e2
 exact ⟨t0, t1, t2, rfl, b0, b1, b2⟩
end
theorem own18_row (x1 x2 x3 : Int) (_ : -9223372036854775808 ≤ x1 ∧ x1 ≤ 9223372036854775807) (_ : -9223372036854775808 ≤ x2 ∧ x2 ≤ 9223372036854775807) (_ : -9223372036854775808 ≤ x3 ∧ x3 ≤ 9223372036854775807) (y1 y2 y3 : Int) (_ : -9223372036854775808 ≤ y1 ∧ y1 ≤ 9223372036854775807) (_ : -9223372036854775808 ≤ y2 ∧ y2 ≤ 9223372036854775807) (_ : -9223372036854775808 ≤ y3 ∧ y3 ≤ 9223372036854775807) (r : Int) (hr : -9223372036854775808 ≤ r ∧ r ≤ 9223372036854775807) (s : Int) (hs : -9223372036854775808 ≤ s ∧ s ≤ 9223372036854775807) (w : World) :
  Calls Try.prog 5 #[.agg #[.int .i64 x1, .int .i64 x2, .int .i64 x3], .agg #[.int .i64 y1, .int .i64 y2, .int .i64 y3], .int .i64 r, .int .i64 s] w fun e w' => e = .returned (.bool true) ∧ Below w.heap.size w w' := own18_law x1 x2 x3 y1 y2 y3 r s w hr hs
end Go.Proofs.Ytdhhkancbgealaa
