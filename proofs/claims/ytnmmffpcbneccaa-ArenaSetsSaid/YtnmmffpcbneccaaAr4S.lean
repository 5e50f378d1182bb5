/-
  The calls of arena.Arena[string], each said at one outcome.
-/
import Derived.Test.YtnmmffpcbneccaaAr3S
namespace Go.Proofs.Ytnmmffpcbneccaa
open Go.RowKit
set_option linter.unusedVariables false

section
variable (w : World) (B g mb : Nat) (v : Value) (L : List (ByteArray × Int)) (l u m : Int) (hA : ArS w B g mb v L) (hM : At w mb 60 #[.int .i64 l, .int .i64 u, .int .i64 m])
  (hb : 0 ≤ u ∧ u ≤ l ∧ l ≤ 1099511627776) (htu : tot L ≤ u) (hBw : B ≤ w.heap.size)
include hA

theorem atS_to (i : Int) (k : Nat) (hi : i = (k : Int)) (p : ByteArray × Int) (hk : L[k]? = some p) :
    Calls Try.prog 20 #[.pointer (some ⟨g, 0, none⟩), .int .i64 i] w fun e w' => e = .returned (.tuple #[VS p.1, .bool true]) ∧ w = w' := by
  subst hi
  exact atS_in k p w B g mb v L hA hk

include hM hb htu hBw

theorem putS_ok (x : ByteArray) (n k : Int) (h1 : 1 ≤ n) (h2 : n ≤ l - u) (hk : k = (L.length : Int)) :
    Calls Try.prog 19 #[.pointer (some ⟨g, 0, none⟩), VS x, .int .i64 n] w fun e w' => e = .returned (.tuple #[.int .i64 k, .int .i64 0]) ∧
      ∃ v' m', ArS w' B g mb v' (L ++ [(x, n)]) ∧ At w' mb 60 #[.int .i64 l, .int .i64 (u + n), .int .i64 m'] ∧ Keeps (g :: mb :: v.ownBlock.toList) w w' ∧ SameOrNew w v v' := by
  refine (putS_any x n w B g mb v L l u m hA hM hb (by omega) htu hBw).mono ?_
  obtain ⟨e1, e2, e3, e4, e5⟩ := put_ok (l := l) (u := u) (m := m) (x := x) (L := L) (k := L.length) h1 h2
  rw [e1, e2, e3, e5, ← hk]
  rintro e w' ⟨he, v', q1, q2, q3, q4⟩
  exact ⟨he, v', _, q1, q2, q3, q4⟩

theorem putS_no (x : ByteArray) (n c : Int) (hn : -9223372036854775808 ≤ n ∧ n ≤ 9223372036854775807) (hc : (n < 1 ∧ c = 1) ∨ (1 ≤ n ∧ l - u < n ∧ c = 5)) :
    Calls Try.prog 19 #[.pointer (some ⟨g, 0, none⟩), VS x, .int .i64 n] w fun e w' => e = .returned (.tuple #[.int .i64 0, .int .i64 c]) ∧
      ∃ v', ArS w' B g mb v' L ∧ At w' mb 60 #[.int .i64 l, .int .i64 u, .int .i64 m] ∧ Keeps (g :: mb :: v.ownBlock.toList) w w' ∧ SameOrNew w v v' := by
  refine (putS_any x n w B g mb v L l u m hA hM hb hn htu hBw).mono ?_
  rcases hc with ⟨h1, rfl⟩ | ⟨h1, h2, rfl⟩
  · obtain ⟨e1, e2, e3, e4, e5⟩ := put_neg (l := l) (u := u) (m := m) (x := x) (L := L) (k := L.length) h1
    rw [e1, e2, e3, e4, e5]
    exact fun e w' h => h
  · obtain ⟨e1, e2, e3, e4, e5⟩ := put_big (l := l) (u := u) (m := m) (x := x) (L := L) (k := L.length) h1 h2
    rw [e1, e2, e3, e4, e5]
    exact fun e w' h => h

theorem cutS_to (n : Int) (hn : -9223372036854775808 ≤ n ∧ n ≤ 9223372036854775807) (k : Nat) (q : Int) (hk : k = cutAt n L.length) (hq : q = tot (L.drop k)) :
    Calls Try.prog 21 #[.pointer (some ⟨g, 0, none⟩), .int .i64 n] w fun e w' => e = .returned (.int .i64 q) ∧
      ∃ v', ArS w' B g mb v' (L.take k) ∧ At w' mb 60 #[.int .i64 l, .int .i64 (u - q), .int .i64 m] ∧ Keeps (g :: mb :: v.ownBlock.toList) w w' ∧ SameOrNew w v v' := by
  refine (cutS_any n w B g mb v L l u m hA hM hb hn htu hBw).mono ?_
  rw [← hk, ← hq]
  rintro e w' ⟨he, v', q1, q2, q3, q4⟩
  exact ⟨he, v', q1, q2, q3, fun j hj => .inl (by rw [← q4]; exact hj)⟩

end

/-- A new arena of a meter that lies in a block of its own. -/
theorem newArS (w : World) (B mb : Nat) :
    ArS (w.alloc (.cells #[.pointer (some ⟨mb, 0, none⟩), .slice none 0 0, .int .i64 0] 66)) B w.heap.size mb (.slice none 0 0) [] :=
  ⟨At.new w _ _, World.ownsRow_nil _ _ _ _, by simp, by decide⟩

end Go.Proofs.Ytnmmffpcbneccaa
