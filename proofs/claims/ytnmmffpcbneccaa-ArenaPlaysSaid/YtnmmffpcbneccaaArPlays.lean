/-
  The walk over tronagelaw02.ArenaPlays.
-/
import Derived.Test.YtnmmffpcbneccaaArBo
import Derived.Test.YtnmmffpcbneccaaArAw
import Derived.Test.YtnmmffpcbneccaaOps3
namespace Go.Proofs.Ytnmmffpcbneccaa
open Go.RowKit
set_option linter.unusedVariables false

theorem done_any (w0 : World) (g mb rg rm : Nat) (w : World) (l : Int) (L : List (Int × Int)) (h : Bo w0 g mb rg rm w l L) (x n y : Int) (hn : -9223372036854775808 ≤ n ∧ n ≤ 9223372036854775807) :
    Calls Try.prog 13 #[.pointer (some ⟨g, 0, none⟩), .pointer (some ⟨rg, 0, none⟩), .agg #[.int .i64 x, .int .i64 n, .int .i64 y]] w fun e w' => e = .returned (.bool true) ∧ ∃ L', Bo w0 g mb rg rm w' l L' := by
  have same : ∀ {e w'}, (e = Ending.returned (.bool true) ∧ Bo w0 g mb rg rm w' l L) → e = .returned (.bool true) ∧ ∃ L', Bo w0 g mb rg rm w' l L' := fun ⟨he, hb⟩ => ⟨he, _, hb⟩
  by_cases h1 : x = 1
  · subst h1; exact done_put w0 g mb rg rm w l L h n y hn
  · by_cases h2 : x = 2
    · subst h2
      by_cases hi : 0 ≤ n ∧ n < (L.length : Int)
      · obtain ⟨k, rfl⟩ : ∃ k : Nat, n = (k : Int) := ⟨n.toNat, by omega⟩
        obtain ⟨p, hp⟩ : ∃ p, L[k]? = some p := ⟨_, List.getElem?_eq_getElem (by omega)⟩
        exact (done_at_in w0 g mb rg rm w l L h k p hp y hn).mono fun _ _ => same
      · exact (done_at_out w0 g mb rg rm w l L h n (by unfold isIn; exact decide_eq_false hi) y hn).mono fun _ _ => same
    · by_cases h3 : x = 3
      · subst h3
        by_cases hi : 0 ≤ n ∧ n < (L.length : Int)
        · obtain ⟨k, rfl⟩ : ∃ k : Nat, n = (k : Int) := ⟨n.toNat, by omega⟩
          obtain ⟨p, hp⟩ : ∃ p, L[k]? = some p := ⟨_, List.getElem?_eq_getElem (by omega)⟩
          exact done_set_in w0 g mb rg rm w l L h k p hp y hn
        · exact (done_set_out w0 g mb rg rm w l L h n (by unfold isIn; exact decide_eq_false hi) y hn).mono fun _ _ => same
      · by_cases h4 : x = 4
        · subst h4; exact done_cut w0 g mb rg rm w l L h n y hn
        · exact (done_other w0 g mb rg rm w l L h x (by simpa using h1) (by simpa using h2) (by simpa using h3) (by simpa using h4) n y hn).mono fun _ _ => same

/-- A contract 'w = w'' in a quiet region behind draws. -/
theorem quiet_same2 {P : Program} {f : FuncId} {args : Array Value} {w : World} {q n : Nat} {v : Value}
    (h : Calls P f args (w.drewN (q + n)) fun e w' => e = .returned v ∧ w.drewN (q + n) = w') : Calls P f args (w.drewN (q + n)) fun e w'' => e = .returned v ∧ ∃ m, w'' = w.drewN (q + m) :=
  h.mono fun _ _ ⟨he, hm⟩ => ⟨he, n, hm.symm⟩

theorem rcells_one {w0 : World} {rg rm : Nat} {w : World} {l : Int} {L : List (Int × Int)} (r : RfO w0 rg rm w l L) :
    Calls Try.prog 17 #[.pointer (some ⟨rg, 0, none⟩)] w fun e w' => e = .returned (.int .i64 (tot L)) ∧ w = w' := by
  obtain ⟨vL, vC, m, hA, hM⟩ := r.ex
  exact rcells_any _ _ _ _ _ _ _ hA

theorem Bo.start {w0 w : World} (hb : Below w0.heap.size w0 w) {l : Int} (hl : 0 ≤ l ∧ l ≤ 1099511627776) :
    Bo w0 (w.heap.size + 1) w.heap.size (w.heap.size + 1 + 1 + 1) (w.heap.size + 1 + 1)
      ((((w.alloc (.cells #[.int .i64 l, .int .i64 0, .int .i64 0] 60)).alloc (.cells #[.pointer (some ⟨w.heap.size, 0, none⟩), .slice none 0 0, .int .i64 0] 63)).alloc
        (.cells #[.int .i64 l, .int .i64 0, .int .i64 0] 32)).alloc (.cells #[.pointer (some ⟨w.heap.size + 1 + 1, 0, none⟩), .slice none 0 0, .slice none 0 0] 35)) l [] := by
  have h := OneI.start hb hl
  have hs := hb.size
  generalize hw2 : (w.alloc (.cells #[.int .i64 l, .int .i64 0, .int .i64 0] 60)).alloc (.cells #[.pointer (some ⟨w.heap.size, 0, none⟩), .slice none 0 0, .int .i64 0] 63) = w2 at h
  have e2 : w2.heap.size = w.heap.size + 1 + 1 := by rw [← hw2]; simp
  have hb3 := h.bel.alloc h.bel.size (.cells #[.int .i64 l, .int .i64 0, .int .i64 0] 32)
  have hb4 := hb3.alloc hb3.size (.cells #[.pointer (some ⟨w.heap.size + 1 + 1, 0, none⟩), .slice none 0 0, .slice none 0 0] 35)
  have m3 := At.new w2 32 #[.int .i64 l, .int .i64 0, .int .i64 0]
  have a4 := At.new (w2.alloc (.cells #[.int .i64 l, .int .i64 0, .int .i64 0] 32)) 35 #[.pointer (some ⟨w.heap.size + 1 + 1, 0, none⟩), .slice none 0 0, .slice none 0 0]
  have e3 : (w2.alloc (.cells #[.int .i64 l, .int .i64 0, .int .i64 0] 32)).heap.size = w.heap.size + 1 + 1 + 1 := by rw [← e2]; simp
  rw [e2] at m3
  rw [e3] at a4
  refine ⟨h.spares (ts := []) (((Spares.refl _ _).alloc _).alloc _) hb4 (by simp), ⟨⟨_, _, 0, ⟨a4, World.ownsRow_nil _ _ _ _, World.ownsRow_nil _ _ _ _, fun k hk => by simp [Value.ownBlock] at hk, by simp, by decide⟩, m3.alloc _⟩, hb4, hl, by omega, by omega⟩⟩

set_option maxRecDepth 100000 in
set_option maxHeartbeats 4000000 in
theorem plays_any (a : Int) (ba : -9223372036854775808 ≤ a ∧ a ≤ 9223372036854775807) (A : Option Addr) (n c : Nat) (X Y Z : Nat → Int) (w : World) (O : Ops3 w w.heap.size A n X Y Z) :
    Calls Try.prog 3 #[.int .i64 a, .slice A n c] w fun e w' => e = .returned (.bool true) ∧ Below w.heap.size w w' := by
  have HO := Lib.hid O
  clear O
  go_enter Try.func3, Try.ntmps3
  go_wp2_with fail
  refine (awake_any _).mono ?_
  rintro e w1 ⟨rfl, hb1⟩
  have HB1 := Lib.hid hb1
  clear hb1
  go_wp2_with fail
  refine (new_any a _).mono ?_
  rintro e w2 ⟨rfl, rfl⟩
  go_wp2_with fail
  refine (newI_any _ _).mono ?_
  rintro e w3 ⟨rfl, rfl⟩
  go_wp2_with fail
  refine (Held_any _ _).mono ?_
  rintro e w3 ⟨rfl, rfl⟩
  have h := Lib.hid (Bo.start HB1.out (hld_range a))
  by_cases h40 : (100 : Int) < (n : Int)
  · go_wp2_with fail
    go_ret
    exact ⟨rfl, h.out.one.bel⟩
  · have hn40 : n ≤ 100 := by omega
    go_wp2_with fail
    go_loopw [9] (fun i wr => ∃ (k : Nat) (L : List (Int × Int)), k ≤ n ∧ i = .int .i64 (k : Int) ∧ Bo w (w1.heap.size + 1) w1.heap.size (w1.heap.size + 1 + 1 + 1) (w1.heap.size + 1 + 1) wr (hld a) L) (fun i _ => n - (intOf i).toNat)
    case atStart => exact ⟨0, [], by omega, rfl, h.out⟩
    case round =>
      obtain ⟨k, L, hk, rfl, hP⟩ := hrel
      have P := Lib.hid hP
      clear hP
      by_cases hlt : k < n
      · obtain ⟨b, o, rfl, hbo, c0, c1, c2⟩ := (HO.out.below P.out.one.bel).each k hlt
        have rY := HO.out.ry k hlt
        go_wp2_with fail
        refine (done_any _ _ _ _ _ _ _ _ P.out (X k) (Y k) (Z k) rY).mono ?_
        rintro e w4 ⟨rfl, L4, h4⟩
        have Q := Lib.hid h4
        have hnn := h4.one.nonneg
        have hll := h4.one.lim
        clear h4 c0 c1 c2
        go_wp2_with fail
        refine (oneI_len _ _ _ _ _ _ Q.out.one).mono ?_
        rintro e w5 ⟨rfl, rfl⟩
        go_wp2_with fail
        refine (oneI_cells _ _ _ _ _ _ Q.out.one).mono ?_
        rintro e w5 ⟨rfl, rfl⟩
        go_wp2_with fail
        refine (oneI_left _ _ _ _ _ _ Q.out.one).mono ?_
        rintro e w5 ⟨rfl, nq, rfl⟩
        obtain ⟨ao, cap, r1, r0, d0, d1, _⟩ := Q.out.ref.look
        go_wp2_with fail
        go_quiet (first | (go_at_call 17; refine quiet_same2 (rcells_one (Q.out.ref.drewN _))))
        go_wp2_with fail
        go_roundw
        case rel => exact ⟨k + 1, _, by omega, by go_num, Q.out.drewN _⟩
        case measure => simp [intOf]; omega
      · obtain rfl : n = k := by omega
        have hnn := P.out.one.nonneg
        go_wp2_with fail
        go_loopw [14] (fun i wq => ∃ j : Int, -1 ≤ j ∧ j ≤ (L.length : Int) + 1 ∧ i = .int .i64 j ∧ Bo w (w1.heap.size + 1) w1.heap.size (w1.heap.size + 1 + 1 + 1) (w1.heap.size + 1 + 1) wq (hld a) L) (fun i _ => ((L.length : Int) + 1 - intOf i).toNat)
        case atStart => exact ⟨-1, by omega, by omega, rfl, P.out⟩
        case round =>
          obtain ⟨j, hj0, hj1, rfl, hQ⟩ := hrel
          have Q := Lib.hid hQ
          obtain ⟨ao, cap, r1, _, _, _, _⟩ := hQ.ref.look
          clear hQ
          by_cases hle : j ≤ (L.length : Int)
          · have hd : Calls Try.prog 13 #[.pointer (some ⟨w1.heap.size + 1, 0, none⟩), .pointer (some ⟨w1.heap.size + 1 + 1 + 1, 0, none⟩), .agg #[.int .i64 2, .int .i64 j, .int .i64 0]] wr fun e w' => e = .returned (.bool true) ∧
                Bo w (w1.heap.size + 1) w1.heap.size (w1.heap.size + 1 + 1 + 1) (w1.heap.size + 1 + 1) w' (hld a) L := by
              by_cases hi : 0 ≤ j ∧ j < (L.length : Int)
              · obtain ⟨q, rfl⟩ : ∃ q : Nat, j = (q : Int) := ⟨j.toNat, by omega⟩
                obtain ⟨p, hp⟩ : ∃ p, L[q]? = some p := ⟨_, List.getElem?_eq_getElem (by omega)⟩
                exact done_at_in _ _ _ _ _ _ _ _ Q.out q p hp 0 (by omega)
              · exact done_at_out _ _ _ _ _ _ _ _ Q.out j (by unfold isIn; exact decide_eq_false hi) 0 (by omega)
            have HD := Lib.hid hd
            clear hd
            go_wp2_with fail
            refine HD.out.mono ?_
            rintro e w5 ⟨rfl, h5⟩
            have H5 := Lib.hid h5
            clear h5
            go_wp2_with fail
            go_roundw
            case rel => exact ⟨j + 1, by omega, by omega, rfl, H5.out⟩
            case measure => simp [intOf]; omega
          · have hgt : (L.length : Int) < j := by omega
            go_wp2_with fail
            go_ret
            exact ⟨rfl, Q.out.one.bel⟩

end Go.Proofs.Ytnmmffpcbneccaa
