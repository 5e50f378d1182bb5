/-
  The walk over tronagelaw03.BitsetCopies.
-/
import Derived.Test.YtnlpibikonenmaaDoorBsUnion
namespace Go.Proofs.YtnlpibikonenmaaDoor
open Go.RowKit
open BitKit
set_option linter.unusedVariables false
set_option linter.unusedSimpArgs false

theorem copy_ex (b n : Nat) (S : Nat → Bool) (w : World) (hs : IsSet w b n S) :
    Calls Tryd.prog 15 #[.pointer (some ⟨b, 0, none⟩)] w fun e w' => ∃ b', e = .returned (.pointer (some ⟨b', 0, none⟩)) ∧ w.heap.size ≤ b' ∧ IsSet w' b' n S ∧ w.grownBy w' none :=
  (copy_any b n S w hs).mono fun e w' h => ⟨_, h.1, Nat.le_refl _, h.2 ▸ ⟨At.new _ _ _, hs.le, hs.fit⟩, h.2 ▸ grown_alloc (grown_refl w none) _⟩

set_option maxRecDepth 100000 in
set_option maxHeartbeats 16000000 in
theorem copies_law (n : Int) (bn : -9223372036854775808 ≤ n ∧ n ≤ 9223372036854775807) (A1 : Option Addr) (l1 c1 : Nat) (X1 : Nat → Int) (x : Int) (bx : -9223372036854775808 ≤ x ∧ x ≤ 9223372036854775807) (y : Int) (byy : -9223372036854775808 ≤ y ∧ y ≤ 9223372036854775807) (w : World) (O1 : Nums w w.heap.size A1 l1 X1) (hT : Tab w) (hg0 : 0 < w.heap.size) :
    Calls Tryd.prog 7 #[.int .i64 n, .slice A1 l1 c1, .int .i64 x, .int .i64 y] w fun e w' => e = .returned (.bool true) ∧ Below w.heap.size w w' := by
  have HO1 := Lib.hid O1
  have HT := Lib.hid hT
  clear O1 hT
  go_enter Tryd.func7, Tryd.ntmps7
  go_wp2_with fail
  refine (awake_any w HT.out hg0).mono ?_
  rintro e w1 ⟨rfl, hg1⟩
  have G1 := Lib.hid hg1
  clear hg1
  by_cases h1 : (100 : Int) < (l1 : Int)
  · go_wp2_with fail
    go_ret
    exact ⟨rfl, grown_below G1.out⟩
  · go_wp2_with fail
    refine (of_new n A1 l1 c1 X1 w1 ((HO1.out.below (grown_below G1.out)).wide G1.out.size)).mono ?_
    rintro e w2 ⟨b1, rfl, hb1, hs2, hg2⟩
    have G2 := Lib.hid (grown_none G1.out hg2)
    have S2 := Lib.hid hs2
    have hz1 : w.heap.size ≤ b1 := by have := G1.out.size; omega
    clear hs2 hg2 G1
    generalize ofs (held n) X1 l1 = S at S2
    generalize held n = m at S2
    have T2 := Lib.hid (HT.out.below (grown_below G2.out) hg0)
    go_wp2_with fail
    refine (list_row b1 _ _ w2 S2.out T2.out (by have := G2.out.size; omega)).mono ?_
    rintro e w3 ⟨⟨A, c, rfl, hr3, hA3⟩, hg3⟩
    have HA := Lib.hid hA3
    have R3 := Lib.hid hr3
    have G3 := Lib.hid (grown_none G2.out hg3)
    have S3 := Lib.hid (S2.out.grown hg3 (by simp))
    have hb2 : b1 < w2.heap.size := S2.out.at_.lt
    have hlw : w2.heap.size ≤ w3.heap.size := hg3.size
    have hz2 : w.heap.size ≤ w2.heap.size := G2.out.size
    clear hr3 hA3 hg3 S2 G2 T2
    go_wp2_with fail
    refine (copy_ex b1 _ _ w3 S3.out).mono ?_
    rintro e w4 ⟨b2, rfl, hb4, hs4, hg4⟩
    have G4 := Lib.hid (grown_none G3.out hg4)
    have S4 := Lib.hid (S3.out.grown hg4 (by simp))
    have C4 := Lib.hid hs4
    have R4 := Lib.hid (R3.out.below (grown_below hg4))
    have L4 : RowKit.Hid (∀ a, A = some a → 0 < (all S).length → a.block ≠ b1 ∧ a.block ≠ b2) := Lib.hid (fun a ha hl => ⟨by have := HA.out a ha; omega, by have := R3.out.low a _ _ (by rw [ha]) hl; omega⟩)
    have hz4 : w3.heap.size ≤ w4.heap.size := hg4.size
    clear hs4 hg4 R3 S3 G3 HA
    go_wp2_with fail
    refine (add_any b2 _ _ x w4 C4.out).mono ?_
    rintro e w5 ⟨rfl, hs5, hg5⟩
    have G5 := Lib.hid (grown_new_trans G4.out hg5 (by omega))
    have S5 := Lib.hid (S4.out.grown hg5 (fun e => by injection e with e; omega))
    have C5 := Lib.hid hs5
    have R5 := Lib.hid (R4.out.turn hg5 (fun a n c he hn => by injection he with he he2; exact (L4.out a he (by omega)).2))
    clear hs5 hg5 R4 S4 G4 C4
    go_wp2_with fail
    refine (drop_any b2 _ _ y w5 C5.out).mono ?_
    rintro e w6 ⟨rfl, hs6, hg6⟩
    have G6 := Lib.hid (grown_new_trans G5.out hg6 (by omega))
    have S6 := Lib.hid (S5.out.grown hg6 (fun e => by injection e with e; omega))
    have C6 := Lib.hid hs6
    have R6 := Lib.hid (R5.out.turn hg6 (fun a n c he hn => by injection he with he he2; exact (L4.out a he (by omega)).2))
    have T6 := Lib.hid (HT.out.below (grown_below G6.out) hg0)
    clear hs6 hg6 R5 S5 G5 C5
    go_wp2_with fail
    refine (list_row b1 _ _ w6 S6.out T6.out (by have := G6.out.size; omega)).mono ?_
    rintro e w7 ⟨⟨A', c', rfl, hr7, hA7⟩, hg7⟩
    have HA' := Lib.hid hA7
    have Q7 := Lib.hid hr7
    have G7 := Lib.hid (grown_none G6.out hg7)
    have S7 := Lib.hid (S6.out.grown hg7 (by simp))
    have C7 := Lib.hid (C6.out.grown hg7 (by simp))
    have R7 := Lib.hid (R6.out.below (grown_below hg7))
    have hb16 : b1 < w6.heap.size := S6.out.at_.lt
    clear hr7 hA7 hg7 S6 C6 R6 G6 T6
    go_wp2_with fail
    refine (copy_ex b1 _ _ w7 S7.out).mono ?_
    rintro e w8 ⟨b3, rfl, hb8, hs8, hg8⟩
    have G8 := Lib.hid (grown_none G7.out hg8)
    have S8 := Lib.hid (S7.out.grown hg8 (by simp))
    have C8 := Lib.hid (C7.out.grown hg8 (by simp))
    have D8 := Lib.hid hs8
    have R8 := Lib.hid (R7.out.below (grown_below hg8))
    have Q8 := Lib.hid (Q7.out.below (grown_below hg8))
    have hb17 : b1 < w7.heap.size := S7.out.at_.lt
    clear hs8 hg8 S7 C7 R7 Q7 G7
    go_wp2_with fail
    refine (drop_any b1 _ _ x w8 S8.out).mono ?_
    rintro e w9 ⟨rfl, hs9, hg9⟩
    have G9 := Lib.hid (grown_new_trans G8.out hg9 hz1)
    have S9 := Lib.hid hs9
    have C9 := Lib.hid (C8.out.grown hg9 (fun e => by injection e with e; omega))
    have D9 := Lib.hid (D8.out.grown hg9 (fun e => by injection e with e; omega))
    have R9 := Lib.hid (R8.out.turn hg9 (fun a n c he hn => by injection he with he he2; exact (L4.out a he (by omega)).1))
    have Q9 := Lib.hid (Q8.out.turn hg9 (fun a n c he hn => by injection he with he he2; have := HA'.out a he; omega))
    clear hs9 hg9 S8 C8 D8 R8 Q8 G8
    go_wp2_with fail
    refine (add_any b1 _ _ y w9 S9.out).mono ?_
    rintro e w10 ⟨rfl, hs10, hg10⟩
    have G10 := Lib.hid (grown_new_trans G9.out hg10 hz1)
    have S10 := Lib.hid hs10
    have C10 := Lib.hid (C9.out.grown hg10 (fun e => by injection e with e; omega))
    have D10 := Lib.hid (D9.out.grown hg10 (fun e => by injection e with e; omega))
    have R10 := Lib.hid (R9.out.turn hg10 (fun a n c he hn => by injection he with he he2; exact (L4.out a he (by omega)).1))
    have Q10 := Lib.hid (Q9.out.turn hg10 (fun a n c he hn => by injection he with he he2; have := HA'.out a he; omega))
    have T10 := Lib.hid (HT.out.below (grown_below G10.out) hg0)
    clear hs10 hg10 S9 C9 D9 R9 Q9 G9
    go_wp2_with fail
    refine (ints_row _ _ _ _ w10 R10.out Q10.out).mono ?_
    rintro e w11 ⟨⟨r1, rfl, hr1⟩, d1, rfl⟩
    obtain rfl : r1 = true := hr1.2 rfl
    clear hr1
    go_wp2_with fail
    refine (list_row b3 _ _ _ (D10.out.drewN d1) (T10.out.below (below_drewN (Below.refl w.heap.size w10) d1) hg0) (by have := G10.out.size; show _ < w10.heap.size; omega)).mono ?_
    rintro e w12 ⟨⟨A'', c'', rfl, hr12, _⟩, hg12⟩
    have Q12 := Lib.hid hr12
    have R12 := Lib.hid ((R10.out.drewN d1).below (grown_below hg12))
    have G12 := Lib.hid (grown_none (grown_drewN G10.out d1) hg12)
    have S12 := Lib.hid ((S10.out.drewN d1).grown hg12 (by simp))
    have C12 := Lib.hid ((C10.out.drewN d1).grown hg12 (by simp))
    clear hr12 hg12
    go_wp2_with fail
    refine (ints_row _ _ _ _ w12 R12.out Q12.out).mono ?_
    rintro e w13 ⟨⟨r2, rfl, hr2⟩, d2, rfl⟩
    obtain rfl : r2 = true := hr2.2 rfl
    clear hr2
    go_wp2_with fail
    refine (width_any b2 _ _ _ (C12.out.drewN d2)).mono ?_
    rintro e w14 ⟨rfl, rfl⟩
    go_wp2_with fail
    refine (width_any b1 _ _ _ (S12.out.drewN d2)).mono ?_
    rintro e w15 ⟨rfl, rfl⟩
    go_wp2_with fail
    go_ret
    exact ⟨rfl, grown_below (grown_drewN G12.out _)⟩

end Go.Proofs.YtnlpibikonenmaaDoor
