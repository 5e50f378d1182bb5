/-
  The walks over arena.Arena[string]: New, Len, Cells, has, At, Set.
-/
import Derived.Test.YtnmmffpcbneccaaArena
import Derived.Lib.MinMax
namespace Go.Proofs.Ytnmmffpcbneccaa
open Go.RowKit
set_option linter.unusedVariables false

abbrev VS : ByteArray → Value := Value.string
abbrev ArS (w : World) (B g mb : Nat) (v : Value) (L : List (ByteArray × Int)) : Prop := Ar VS 66 69 w B g mb v L

set_option maxHeartbeats 400000 in
theorem newS_any (mb : Nat) (w : World) :
    Calls Try.prog 18 #[.pointer (some ⟨mb, 0, none⟩)] w fun e w' => e = .returned (.pointer (some ⟨w.heap.size, 0, none⟩)) ∧ w.alloc (.cells #[.pointer (some ⟨mb, 0, none⟩), .slice none 0 0, .int .i64 0] 66) = w' := by
  go_enter Try.func18, Try.ntmps18
  go_wp2
  go_ret
  exact ⟨rfl, rfl⟩

set_option maxHeartbeats 400000 in
theorem lenS_any (w : World) (B g mb : Nat) (v : Value) (L : List (ByteArray × Int)) (hA : ArS w B g mb v L) :
    Calls Try.prog 22 #[.pointer (some ⟨g, 0, none⟩)] w fun e w' => e = .returned (.int .i64 (L.length : Int)) ∧ w = w' := by
  obtain ⟨ao, cap, rfl⟩ := hA.shape
  have c1 := hA.at_.cell 1
  clear hA
  simp at c1
  go_enter Try.func22, Try.ntmps22
  go_wp2
  go_ret
  exact ⟨rfl, rfl⟩

set_option maxHeartbeats 400000 in
theorem cellsS_any (w : World) (B g mb : Nat) (v : Value) (L : List (ByteArray × Int)) (hA : ArS w B g mb v L) :
    Calls Try.prog 28 #[.pointer (some ⟨g, 0, none⟩)] w fun e w' => e = .returned (.int .i64 (tot L)) ∧ w = w' := by
  have c1 := hA.at_.cell 2
  clear hA
  simp at c1
  go_enter Try.func28, Try.ntmps28
  go_wp2
  go_ret
  exact ⟨rfl, rfl⟩

set_option maxHeartbeats 400000 in
theorem hasS_any (i : Int) (w : World) (B g mb : Nat) (v : Value) (L : List (ByteArray × Int)) (hA : ArS w B g mb v L) :
    Calls Try.prog 34 #[.pointer (some ⟨g, 0, none⟩), .int .i64 i] w fun e w' => e = .returned (.bool (isIn L.length i)) ∧ w = w' := by
  obtain ⟨ao, cap, rfl⟩ := hA.shape
  have c1 := hA.at_.cell 1
  clear hA
  simp at c1
  go_enter Try.func34, Try.ntmps34
  by_cases h1 : i < 0
  · have h2 : ¬ 0 ≤ i := by omega
    go_wp2
    all_goals go_ret
    all_goals exact ⟨ret_bool (by rw [isIn_lo h1]), rfl⟩
  · have h0 : 0 ≤ i := by omega
    by_cases h2 : i < (L.length : Int)
    · go_wp2
      all_goals go_ret
      all_goals exact ⟨ret_bool (by rw [isIn_t h0 h2]), rfl⟩
    · go_wp2
      all_goals go_ret
      all_goals exact ⟨ret_bool (by rw [isIn_hi (by omega)]), rfl⟩

set_option maxHeartbeats 400000 in
theorem atS_in (k : Nat) (p : ByteArray × Int) (w : World) (B g mb : Nat) (v : Value) (L : List (ByteArray × Int)) (hA : ArS w B g mb v L) (hk : L[k]? = some p) :
    Calls Try.prog 20 #[.pointer (some ⟨g, 0, none⟩), .int .i64 (k : Int)] w fun e w' => e = .returned (.tuple #[VS p.1, .bool true]) ∧ w = w' := by
  have H := Lib.hid hA
  obtain ⟨b, cap, rfl, hlt, h1, h2, h3, h4, hc0, hc1, _⟩ := hA.shapeIn hk
  have c1 := hA.at_.cell 1
  have hsz := hA.size
  have ht : isIn L.length (k : Int) = true := isIn_t (by omega) (by omega)
  have HK := Lib.hid hk
  clear hA hk hc1 h4 h3 h2
  simp at c1
  go_enter Try.func20, Try.ntmps20
  go_wp2_with (go_at_call 34; refine (hasS_any (k : Int) _ _ _ _ _ _ H.out).mono ?_; rintro e w' ⟨rfl, rfl⟩)
  go_ret2
  exact ⟨rfl, rfl⟩

set_option maxHeartbeats 400000 in
theorem atS_out (i : Int) (w : World) (B g mb : Nat) (v : Value) (L : List (ByteArray × Int)) (hA : ArS w B g mb v L) (hi : isIn L.length i = false) :
    Calls Try.prog 20 #[.pointer (some ⟨g, 0, none⟩), .int .i64 i] w fun e w' => e = .returned (.tuple #[.string ⟨#[]⟩, .bool false]) ∧ w = w' := by
  have H := Lib.hid hA
  clear hA
  go_enter Try.func20, Try.ntmps20
  go_wp2_with (go_at_call 34; refine (hasS_any i _ _ _ _ _ _ H.out).mono ?_; rintro e w' ⟨rfl, rfl⟩)
  go_ret2
  exact ⟨rfl, rfl⟩


end Go.Proofs.Ytnmmffpcbneccaa
