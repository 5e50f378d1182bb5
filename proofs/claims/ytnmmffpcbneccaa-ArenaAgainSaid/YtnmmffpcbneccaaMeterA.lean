/-
  The walks over package meter and over the document's meter: what each call answers, and what it does to the one block that holds the meter.
-/
import Derived.Test.YtnmmffpcbneccaaMem
import Derived.WalkLawsBesides
import Derived.BigQuiet
import Derived.Deep.QuietTactic
import Derived.Lib.Hide
namespace Go.Proofs.Ytnmmffpcbneccaa
open Go.RowKit

/-- A number held as a count. -/
def hld (n : Int) : Int := if n < 0 then 0 else if 1099511627776 < n then 1099511627776 else n
theorem hld_range (n : Int) : 0 ≤ hld n ∧ hld n ≤ 1099511627776 := by unfold hld; split <;> (try split) <;> omega
theorem hld_neg {n : Int} (h : n < 0) : hld n = 0 := by unfold hld; rw [if_pos h]
theorem hld_big {n : Int} (h : 1099511627776 < n) : hld n = 1099511627776 := by unfold hld; rw [if_neg (by omega), if_pos h]
theorem hld_in {n : Int} (h : 0 ≤ n) (h' : n ≤ 1099511627776) : hld n = n := by unfold hld; rw [if_neg (by omega), if_neg (by omega)]
theorem ret_int {k : IntKind} {a b : Int} (h : a = b) : Ending.returned (.int k a) = .returned (.int k b) := by rw [h]
theorem ret_bool {a b : Bool} (h : a = b) : Ending.returned (.bool a) = .returned (.bool b) := by rw [h]

set_option maxHeartbeats 400000 in
theorem held_any (n : Int) (w : World) :
    Calls Try.prog 29 #[.int .i64 n] w fun e w' => e = .returned (.int .i64 (hld n)) ∧ w = w' := by
  go_enter Try.func29, Try.ntmps29
  by_cases h1 : n < 0
  · have h2 : ¬ (1099511627776 : Int) < 0 := by omega
    go_wp2
    all_goals go_ret
    all_goals exact ⟨ret_int (by rw [hld_neg h1]), rfl⟩
  · by_cases h2 : 1099511627776 < n
    · go_wp2
      all_goals go_ret
      all_goals exact ⟨ret_int (by rw [hld_big h2]), rfl⟩
    · go_wp2
      all_goals go_ret
      all_goals exact ⟨ret_int (by rw [hld_in (by omega) (by omega)]), rfl⟩

set_option maxHeartbeats 400000 in
theorem Held_any (n : Int) (w : World) :
    Calls Try.prog 12 #[.int .i64 n] w fun e w' => e = .returned (.int .i64 (hld n)) ∧ w = w' := by
  go_enter Try.func12, Try.ntmps12
  by_cases h1 : n < 0
  · go_wp2
    all_goals go_ret
    all_goals exact ⟨ret_int (by rw [hld_neg h1]), rfl⟩
  · by_cases h2 : 1099511627776 < n
    · go_wp2
      all_goals go_ret
      all_goals exact ⟨ret_int (by rw [hld_big h2]), rfl⟩
    · go_wp2
      all_goals go_ret
      all_goals exact ⟨ret_int (by rw [hld_in (by omega) (by omega)]), rfl⟩

set_option maxHeartbeats 400000 in
theorem new_any (n : Int) (w : World) :
    Calls Try.prog 10 #[.int .i64 n] w fun e w' => e = .returned (.pointer (some ⟨w.heap.size, 0, none⟩)) ∧ w.alloc (.cells #[.int .i64 (hld n), .int .i64 0, .int .i64 0] 60) = w' := by
  go_enter Try.func10, Try.ntmps10
  go_wp2_with (go_at_call 29; refine (held_any _ _).mono ?_; rintro e w' ⟨rfl, rfl⟩)
  go_ret
  exact ⟨rfl, rfl⟩

set_option maxHeartbeats 400000 in
theorem left_any (b : Nat) (l u m : Int) (w : World) (hm : At w b 60 #[.int .i64 l, .int .i64 u, .int .i64 m]) (hb : 0 ≤ u ∧ u ≤ l ∧ l ≤ 1099511627776) :
    Calls Try.prog 16 #[.pointer (some ⟨b, 0, none⟩)] w fun e w' => e = .returned (.int .i64 (l - u)) ∧ ∃ n, w' = w.drewN n := by
  have c0 := hm.cell 0
  have c1 := hm.cell 1
  clear hm
  simp at c0 c1
  go_enter Try.func16, Try.ntmps16
  go_wp2
  go_quiet (fail)
  go_wp2
  go_ret
  exact ⟨rfl, _, rfl⟩

set_option maxHeartbeats 400000 in
theorem used_any (b : Nat) (l u m : Int) (w : World) (hm : At w b 60 #[.int .i64 l, .int .i64 u, .int .i64 m]) :
    Calls Try.prog 26 #[.pointer (some ⟨b, 0, none⟩)] w fun e w' => e = .returned (.int .i64 u) ∧ w = w' := by
  have c1 := hm.cell 1
  clear hm
  simp at c1
  go_enter Try.func26, Try.ntmps26
  go_wp2
  go_ret
  exact ⟨rfl, rfl⟩

end Go.Proofs.Ytnmmffpcbneccaa
