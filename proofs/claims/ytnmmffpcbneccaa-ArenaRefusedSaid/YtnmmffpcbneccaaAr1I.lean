/-
  The walks over arena.Arena[int]: New, Len, Cells, has, At, Set.
-/
import Derived.Test.YtnmmffpcbneccaaArena
import Derived.Lib.MinMax
namespace Go.Proofs.Ytnmmffpcbneccaa
open Go.RowKit
set_option linter.unusedVariables false

abbrev VI : Int → Value := Value.int .i64
abbrev ArI (w : World) (B g mb : Nat) (v : Value) (L : List (Int × Int)) : Prop := Ar VI 63 72 w B g mb v L

set_option maxHeartbeats 400000 in
theorem newI_any (mb : Nat) (w : World) :
    Calls Try.prog 11 #[.pointer (some ⟨mb, 0, none⟩)] w fun e w' => e = .returned (.pointer (some ⟨w.heap.size, 0, none⟩)) ∧ w.alloc (.cells #[.pointer (some ⟨mb, 0, none⟩), .slice none 0 0, .int .i64 0] 63) = w' := by
  go_enter Try.func11, Try.ntmps11
  go_wp2
  go_ret
  exact ⟨rfl, rfl⟩

set_option maxHeartbeats 400000 in
theorem lenI_any (w : World) (B g mb : Nat) (v : Value) (L : List (Int × Int)) (hA : ArI w B g mb v L) :
    Calls Try.prog 14 #[.pointer (some ⟨g, 0, none⟩)] w fun e w' => e = .returned (.int .i64 (L.length : Int)) ∧ w = w' := by
  obtain ⟨ao, cap, rfl⟩ := hA.shape
  have c1 := hA.at_.cell 1
  clear hA
  simp at c1
  go_enter Try.func14, Try.ntmps14
  go_wp2
  go_ret
  exact ⟨rfl, rfl⟩

set_option maxHeartbeats 400000 in
theorem cellsI_any (w : World) (B g mb : Nat) (v : Value) (L : List (Int × Int)) (hA : ArI w B g mb v L) :
    Calls Try.prog 15 #[.pointer (some ⟨g, 0, none⟩)] w fun e w' => e = .returned (.int .i64 (tot L)) ∧ w = w' := by
  have c1 := hA.at_.cell 2
  clear hA
  simp at c1
  go_enter Try.func15, Try.ntmps15
  go_wp2
  go_ret
  exact ⟨rfl, rfl⟩

set_option maxHeartbeats 400000 in
theorem hasI_any (i : Int) (w : World) (B g mb : Nat) (v : Value) (L : List (Int × Int)) (hA : ArI w B g mb v L) :
    Calls Try.prog 36 #[.pointer (some ⟨g, 0, none⟩), .int .i64 i] w fun e w' => e = .returned (.bool (isIn L.length i)) ∧ w = w' := by
  obtain ⟨ao, cap, rfl⟩ := hA.shape
  have c1 := hA.at_.cell 1
  clear hA
  simp at c1
  go_enter Try.func36, Try.ntmps36
  by_cases h1 : i < 0
  · have h2 : ¬ 0 ≤ i := by omega
    go_wp2
    all_goals go_ret
    all_goals exact ⟨ret_bool (by rw [isIn_lo h1]), rfl⟩
  · have h0 : 0 ≤ i := by omega
    by_cases h2 : i < (L.length : Int)
    · go_wp2
      all_goals go_ret
      all_goals exact ⟨ret_bool (by rw [isIn_t h0 h2]), rfl⟩
    · go_wp2
      all_goals go_ret
      all_goals exact ⟨ret_bool (by rw [isIn_hi (by omega)]), rfl⟩

set_option maxHeartbeats 400000 in
theorem atI_in (k : Nat) (p : Int × Int) (w : World) (B g mb : Nat) (v : Value) (L : List (Int × Int)) (hA : ArI w B g mb v L) (hk : L[k]? = some p) :
    Calls Try.prog 27 #[.pointer (some ⟨g, 0, none⟩), .int .i64 (k : Int)] w fun e w' => e = .returned (.tuple #[VI p.1, .bool true]) ∧ w = w' := by
  have H := Lib.hid hA
  obtain ⟨b, cap, rfl, hlt, h1, h2, h3, h4, hc0, hc1, _⟩ := hA.shapeIn hk
  have c1 := hA.at_.cell 1
  have hsz := hA.size
  have ht : isIn L.length (k : Int) = true := isIn_t (by omega) (by omega)
  have HK := Lib.hid hk
  clear hA hk hc1 h4 h3 h2
  simp at c1
  go_enter Try.func27, Try.ntmps27
  go_wp2_with (go_at_call 36; refine (hasI_any (k : Int) _ _ _ _ _ _ H.out).mono ?_; rintro e w' ⟨rfl, rfl⟩)
  go_ret2
  exact ⟨rfl, rfl⟩

set_option maxHeartbeats 400000 in
theorem atI_out (i : Int) (w : World) (B g mb : Nat) (v : Value) (L : List (Int × Int)) (hA : ArI w B g mb v L) (hi : isIn L.length i = false) :
    Calls Try.prog 27 #[.pointer (some ⟨g, 0, none⟩), .int .i64 i] w fun e w' => e = .returned (.tuple #[.int .i64 0, .bool false]) ∧ w = w' := by
  have H := Lib.hid hA
  clear hA
  go_enter Try.func27, Try.ntmps27
  go_wp2_with (go_at_call 36; refine (hasI_any i _ _ _ _ _ _ H.out).mono ?_; rintro e w' ⟨rfl, rfl⟩)
  go_ret2
  exact ⟨rfl, rfl⟩

set_option maxHeartbeats 400000 in
theorem setI_in (k : Nat) (p : Int × Int) (x : Int) (w : World) (B g mb : Nat) (v : Value) (L : List (Int × Int)) (hA : ArI w B g mb v L) (hk : L[k]? = some p) :
    Calls Try.prog 24 #[.pointer (some ⟨g, 0, none⟩), .int .i64 (k : Int), VI x] w fun e w' => e = .returned (.bool true) ∧ ArI w' B g mb v (L.set k (x, p.2)) ∧ Keeps v.ownBlock.toList w w' := by
  have H := Lib.hid hA
  have hna := own_apart hA.own hA.at_ (by decide)
  obtain ⟨b, cap, rfl, hlt, h1, h2, h3, h4, hc0, hc1, hf⟩ := hA.shapeIn hk
  have hst := Lib.hid (hA.stored (x := x) hk rfl (fun e => hna (by rw [e]; rfl)))
  have c1 := hA.at_.cell 1
  have hsz := hA.size
  have hfz := hf (k * 2)
  have ht : isIn L.length (k : Int) = true := isIn_t (by omega) (by omega)
  have HK := Lib.hid hk
  clear hA hk hc1 h4 h3 h2 hna hf
  simp at c1
  go_enter Try.func24, Try.ntmps24
  go_wp2_with (go_at_call 36; refine (hasI_any (k : Int) _ _ _ _ _ _ H.out).mono ?_; rintro e w' ⟨rfl, rfl⟩)
  go_ret
  exact ⟨rfl, hst.out⟩

set_option maxHeartbeats 400000 in
theorem setI_out (i : Int) (x : Int) (w : World) (B g mb : Nat) (v : Value) (L : List (Int × Int)) (hA : ArI w B g mb v L) (hi : isIn L.length i = false) :
    Calls Try.prog 24 #[.pointer (some ⟨g, 0, none⟩), .int .i64 i, VI x] w fun e w' => e = .returned (.bool false) ∧ w = w' := by
  have H := Lib.hid hA
  clear hA
  go_enter Try.func24, Try.ntmps24
  go_wp2_with (go_at_call 36; refine (hasI_any i _ _ _ _ _ _ H.out).mono ?_; rintro e w' ⟨rfl, rfl⟩)
  go_ret
  exact ⟨rfl, rfl⟩

end Go.Proofs.Ytnmmffpcbneccaa
