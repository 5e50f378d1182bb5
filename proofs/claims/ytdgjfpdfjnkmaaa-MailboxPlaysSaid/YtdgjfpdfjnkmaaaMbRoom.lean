/-
  The walk over tronagelaw04.MailboxRoom.
-/
import Derived.Test.YtdgjfpdfjnkmaaaMb2I
import Derived.Test.YtdgjfpdfjnkmaaaMbAw
namespace Go.Proofs.Ytdgjfpdfjnkmaaa
open Go.RowKit
set_option linter.unusedVariables false

theorem bxI_new (w w' : World) (a : Int)
    (h : (w.alloc (.chan (rm a) #[] false 0 0 false)).alloc (.cells #[.int .i64 (rm a : Int), .chan (some w.heap.size)] 55) = w') :
    BxI w' (w.heap.size + 1) w.heap.size (rm a) [] ∧ Keeps [] w w' ∧ w'.heap.size = w.heap.size + 2 := by
  subst h
  exact ⟨Bx.new w a, ((Keeps.refl [] w).alloc _).alloc _, by simp⟩

set_option maxHeartbeats 400000 in
theorem roomI_any (w : World) (g q n : Nat) (L : List Int) (hA : BxI w g q n L) :
    Calls Try.prog 20 #[.pointer (some ⟨g, 0, none⟩)] w fun e w' => e = .returned (.int .i64 (n : Int)) ∧ w = w' := by
  have c1 := hA.room
  clear hA
  go_enter Try.func20, Try.ntmps20
  go_wp2
  go_ret
  exact ⟨rfl, rfl⟩

/-- A box of the law's own, and all that the law changes. -/
structure Lone (w0 : World) (g q R : Nat) (w : World) (L : List Int) : Prop where
  box : BxI w g q R L
  bel : Below w0.heap.size w0 w
  low : w0.heap.size ≤ q
theorem Lone.go {w0 w w' : World} {g q R : Nat} {L L' : List Int} (h : Lone w0 g q R w L) (hb : BxI w' g q R L') (hk : Keeps [q] w w') : Lone w0 g q R w' L' :=
  ⟨hb, below_keeps h.bel hk (by simpa using h.low) h.bel.size, h.low⟩
theorem Lone.start {w0 w w' : World} (hb : Below w0.heap.size w0 w) (a : Int)
    (h : (w.alloc (.chan (rm a) #[] false 0 0 false)).alloc (.cells #[.int .i64 (rm a : Int), .chan (some w.heap.size)] 55) = w') : Lone w0 (w.heap.size + 1) w.heap.size (rm a) w' [] := by
  obtain ⟨h1, h2, h3⟩ := bxI_new w w' a h
  exact ⟨h1, below_keeps hb h2 (by simp) hb.size, hb.size⟩

set_option maxRecDepth 100000 in
set_option maxHeartbeats 8000000 in
theorem room_any (a : Int) (ba : -9223372036854775808 ≤ a ∧ a ≤ 9223372036854775807) (m1 : Int) (b1 : -9223372036854775808 ≤ m1 ∧ m1 ≤ 9223372036854775807) (m2 : Int) (b2 : -9223372036854775808 ≤ m2 ∧ m2 ≤ 9223372036854775807) (m3 : Int) (b3 : -9223372036854775808 ≤ m3 ∧ m3 ≤ 9223372036854775807) (w : World) :
    Calls Try.prog 5 #[.int .i64 a, .int .i64 m1, .int .i64 m2, .int .i64 m3] w fun e w' => e = .returned (.bool true) ∧ Below w.heap.size w w' := by
  go_enter Try.func5, Try.ntmps5
  go_wp2_with fail
  refine (awake_any _).mono ?_
  rintro e w1 ⟨rfl, hb1⟩
  have HB1 := Lib.hid hb1
  clear hb1
  go_wp2_with fail
  refine (newI_any a _).mono ?_
  rintro e w2 ⟨rfl, hw2⟩
  have h := Lone.start HB1.out a hw2
  have hR := rm_lo a
  have hR' := rm_hi a
  have hRa : a < 1 ∨ 64 < a ∨ ((rm a : Nat) : Int) = a := by unfold rm; omega
  generalize rm a = R at h hR hR' hRa
  have H2 := Lib.hid h
  clear h hw2
  have HRA := Lib.hid hRa
  clear hRa
  by_cases h100 : (100 : Int) < m1 ∨ 100 < m2 ∨ 100 < m3
  · by_cases x1 : (100 : Int) < m1
    · go_wp2_with fail
      go_ret
      exact ⟨rfl, H2.out.bel⟩
    · have y1 : m1 ≤ 100 := by omega
      by_cases x2 : (100 : Int) < m2
      · go_wp2_with fail
        go_ret
        exact ⟨rfl, H2.out.bel⟩
      · have y2 : m2 ≤ 100 := by omega
        have x3 : (100 : Int) < m3 := by omega
        go_wp2_with fail
        go_ret
        exact ⟨rfl, H2.out.bel⟩
  · have x1 : m1 ≤ 100 := by omega
    have x2 : m2 ≤ 100 := by omega
    have x3 : m3 ≤ 100 := by omega
    clear h100
    go_wp2_with fail
    go_loopw [11, 12] (fun n i wr => ∃ (j : Int) (L : List Int), 0 ≤ j ∧ j ≤ 101 ∧ i = .int .i64 j ∧ n = .int .i64 (L.length : Int) ∧ Lone w (w1.heap.size + 1) w1.heap.size R wr L) (fun _ i _ => (m1 - intOf i).toNat)
    case atStart => exact ⟨0, [], by omega, by omega, rfl, rfl, H2.out⟩
    case round =>
      obtain ⟨j, L, hj0, hj1, rfl, rfl, hP⟩ := hrel
      have P := Lib.hid hP
      have hl := hP.box.len
      clear hP
      by_cases hlt : j < m1
      · by_cases hr : L.length < R
        · go_wp2_with fail
          refine (offerI_ok j _ _ _ _ _ P.out.box hr).mono ?_
          rintro e w3 ⟨rfl, h3, k3⟩
          have P3 := Lib.hid (P.out.go h3 k3)
          clear h3 k3
          go_wp2_with fail
          refine (roomI_any _ _ _ _ _ P3.out.box).mono ?_
          rintro e w4 ⟨rfl, rfl⟩
          go_wp2_with fail
          go_roundw
          case rel => exact ⟨j + 1, L ++ [j], by omega, by omega, rfl, by simp, P3.out⟩
          case measure => simp [intOf]; omega
        · go_wp2_with fail
          refine (offerI_no j _ _ _ _ _ P.out.box (by omega)).mono ?_
          rintro e w3 ⟨rfl, rfl⟩
          go_wp2_with fail
          refine (roomI_any _ _ _ _ _ P.out.box).mono ?_
          rintro e w4 ⟨rfl, rfl⟩
          go_wp2_with fail
          go_roundw
          case rel => exact ⟨j + 1, L, by omega, by omega, rfl, rfl, P.out⟩
          case measure => simp [intOf]; omega
      · go_wp2_with fail
        go_loopw [11, 14] (fun n i wq => ∃ (j : Int) (L : List Int), 0 ≤ j ∧ j ≤ 101 ∧ i = .int .i64 j ∧ n = .int .i64 (L.length : Int) ∧ Lone w (w1.heap.size + 1) w1.heap.size R wq L) (fun _ i _ => (m2 - intOf i).toNat)
        case atStart => exact ⟨0, L, by omega, by omega, rfl, rfl, P.out⟩
        case round =>
          clear hlt hl hj0 hj1
          obtain ⟨j, L, hj0, hj1, rfl, rfl, hP⟩ := hrel
          have P := Lib.hid hP
          have hl := hP.box.len
          clear hP
          by_cases hlt : j < m2
          · cases L with
            | nil =>
              go_wp2_with fail
              refine (pollI_no _ _ _ _ P.out.box).mono ?_
              rintro e w3 ⟨rfl, rfl⟩
              go_wp2_with fail
              go_roundw
              case rel => exact ⟨j + 1, [], by omega, by omega, rfl, rfl, P.out⟩
              case measure => simp [intOf]; omega
            | cons x L =>
              have hl' : L.length ≤ 63 := by simp at hl; omega
              have HC := Lib.hid (rfl : (x :: L).length = L.length + 1)
              clear hl
              have hnn : ∀ n : Nat, (n = L.length + 1) → ((n : Int) > 0) := fun n h => by omega
              clear hnn
              go_wp2_with fail
              refine (pollI_ok x _ _ _ _ _ P.out.box).mono ?_
              rintro e w3 ⟨rfl, h3, k3⟩
              have P3 := Lib.hid (P.out.go h3 k3)
              clear h3 k3
              have h0 : (0 : Int) < (L.length : Int) + 1 := by omega
              go_wp2_with fail
              go_roundw
              case rel => exact ⟨j + 1, L, by omega, by omega, rfl, by simp, P3.out⟩
              case measure => simp [intOf]; omega
          · go_wp2_with fail
            go_loopw [11, 17] (fun n i wq => ∃ (j : Int) (L : List Int), 0 ≤ j ∧ j ≤ 101 ∧ i = .int .i64 j ∧ n = .int .i64 (L.length : Int) ∧ Lone w (w1.heap.size + 1) w1.heap.size R wq L) (fun _ i _ => (m3 - intOf i).toNat)
            case atStart => exact ⟨0, L, by omega, by omega, rfl, rfl, P.out⟩
            case round =>
              clear hlt hl hj0 hj1
              obtain ⟨j, L, hj0, hj1, rfl, rfl, hP⟩ := hrel
              have P := Lib.hid hP
              have hl := hP.box.len
              clear hP
              by_cases hlt : j < m3
              · by_cases hr : L.length < R
                · go_wp2_with fail
                  refine (offerI_ok _ _ _ _ _ _ P.out.box hr).mono ?_
                  rintro e w3 ⟨rfl, h3, k3⟩
                  have P3 := Lib.hid (P.out.go h3 k3)
                  clear h3 k3
                  go_wp2_with fail
                  refine (roomI_any _ _ _ _ _ P3.out.box).mono ?_
                  rintro e w4 ⟨rfl, rfl⟩
                  go_wp2_with fail
                  go_roundw
                  case rel => exact ⟨j + 1, _, by omega, by omega, rfl, by simp, P3.out⟩
                  case measure => simp [intOf]; omega
                · go_wp2_with fail
                  refine (offerI_no _ _ _ _ _ _ P.out.box (by omega)).mono ?_
                  rintro e w3 ⟨rfl, rfl⟩
                  go_wp2_with fail
                  refine (roomI_any _ _ _ _ _ P.out.box).mono ?_
                  rintro e w4 ⟨rfl, rfl⟩
                  go_wp2_with fail
                  go_roundw
                  case rel => exact ⟨j + 1, L, by omega, by omega, rfl, rfl, P.out⟩
                  case measure => simp [intOf]; omega
              · go_wp2_with fail
                refine (lenI_any _ _ _ _ _ P.out.box).mono ?_
                rintro e w3 ⟨rfl, rfl⟩
                go_wp2_with fail
                refine (roomI_any _ _ _ _ _ P.out.box).mono ?_
                rintro e w3 ⟨rfl, rfl⟩
                go_wp2_with fail
                refine (roomI_any _ _ _ _ _ P.out.box).mono ?_
                rintro e w3 ⟨rfl, rfl⟩
                by_cases r1 : a < 1
                · go_wp2_with fail
                  go_ret
                  exact ⟨rfl, P.out.bel⟩
                · by_cases r2 : 64 < a
                  · go_wp2_with fail
                    go_ret
                    exact ⟨rfl, P.out.bel⟩
                  · have r3 : ((R : Int) == a) = true := by have := HRA.out; simp; omega
                    have r4 : a ≤ 64 := by omega
                    go_wp2_with fail
                    refine (roomI_any _ _ _ _ _ P.out.box).mono ?_
                    rintro e w3 ⟨rfl, rfl⟩
                    go_wp2_with fail
                    go_ret
                    exact ⟨rfl, P.out.bel⟩

end Go.Proofs.Ytdgjfpdfjnkmaaa
