/-
  The walk over tronagelaw03.BitsetPlays.
-/
import Derived.Test.YtnlpibikonenmaaDoorBsDone
import Derived.Test.YtnlpibikonenmaaDoorBsEach
import Derived.Test.YtnlpibikonenmaaDoorBsCopies
namespace Go.Proofs.YtnlpibikonenmaaDoor
open Go.RowKit
open BitKit
set_option linter.unusedVariables false
set_option linter.unusedSimpArgs false

/-- The law's four, above what came in. -/
structure Play (w wr : World) (b1 r1 g1 n1 : Nat) (S : Nat → Bool) (b2 r2 g2 n2 : Nat) (T : Nat → Bool) : Prop where
  four : Four wr b1 r1 g1 n1 S b2 r2 g2 n2 T
  bel : Below w.heap.size w wr
  h1 : w.heap.size ≤ b1
  h2 : w.heap.size ≤ g1
  h3 : w.heap.size ≤ b2
  h4 : w.heap.size ≤ g2

section
variable {w wr w' : World} {b1 r1 g1 n1 b2 r2 g2 n2 : Nat} {S T : Nat → Bool}
theorem Play.grown (h : Play w wr b1 r1 g1 n1 S b2 r2 g2 n2 T) (hg : wr.grownBy w' none) : Play w w' b1 r1 g1 n1 S b2 r2 g2 n2 T :=
  ⟨h.four.grown hg, below_none h.bel hg h.bel.size, h.h1, h.h2, h.h3, h.h4⟩
theorem Play.drewN (h : Play w wr b1 r1 g1 n1 S b2 r2 g2 n2 T) (k : Nat) : Play w (wr.drewN k) b1 r1 g1 n1 S b2 r2 g2 n2 T := ⟨h.four.drewN k, below_drewN h.bel k, h.h1, h.h2, h.h3, h.h4⟩
theorem Play.swap (h : Play w wr b1 r1 g1 n1 S b2 r2 g2 n2 T) : Play w wr b2 r2 g2 n2 T b1 r1 g1 n1 S := ⟨h.four.swap, h.bel, h.h3, h.h4, h.h1, h.h2⟩
theorem Play.copied {b : Nat} (h : Play w wr b1 r1 g1 n1 S b2 r2 g2 n2 T) (hb : wr.heap.size ≤ b) (hs : IsSet w' b n1 S) (hg : wr.grownBy w' none) : Play w w' b r1 g1 n1 S b2 r2 g2 n2 T := by
  have hz := h.bel.size
  have ht := h.four.t.at_.lt
  have q := h.grown hg
  exact ⟨⟨hs, q.four.r, q.four.t, q.four.o, by omega, q.four.ng⟩, q.bel, by omega, h.h2, h.h3, h.h4⟩
end
theorem all_same {S T : Nat → Bool} (hS : ∀ i, S i = true → i < 1024) (hT : ∀ i, T i = true → i < 1024) : all S = all T ↔ S = T := by
  rw [eq_iff hS hT]
  constructor
  · intro h
    funext i
    by_cases hi : i < 1024
    · exact h i hi
    · have h1 : S i = false := by
        cases hs : S i
        · rfl
        · exact absurd (hS i hs) hi
      have h2 : T i = false := by
        cases hs : T i
        · rfl
        · exact absurd (hT i hs) hi
      rw [h1, h2]
  · rintro rfl i _; rfl
theorem new_ex (n : Int) (w : World) :
    Calls Tryd.prog 11 #[.int .i64 n] w fun e w' => ∃ b, e = .returned (.pointer (some ⟨b, 0, none⟩)) ∧ w.heap.size ≤ b ∧ IsSet w' b (held n) (fun _ => false) ∧ w.grownBy w' none :=
  (new_any n w).mono fun e w' h => ⟨_, h.1, Nat.le_refl _, h.2 ▸ new_is n w, h.2 ▸ grown_alloc (grown_refl w none) _⟩

set_option maxRecDepth 100000 in
set_option maxHeartbeats 32000000 in
theorem plays_law (n : Int) (bn : -9223372036854775808 ≤ n ∧ n ≤ 9223372036854775807) (m : Int) (bm : -9223372036854775808 ≤ m ∧ m ≤ 9223372036854775807) (A1 : Option Addr) (l1 c1 : Nat) (X1 : Nat → Int) (A2 : Option Addr) (l2 c2 : Nat) (X Y : Nat → Int) (w : World) (O1 : Nums w w.heap.size A1 l1 X1) (O2 : Ops w w.heap.size A2 l2 X Y) (hT : Tab w) (hg0 : 0 < w.heap.size) :
    Calls Tryd.prog 3 #[.int .i64 n, .int .i64 m, .slice A1 l1 c1, .slice A2 l2 c2] w fun e w' => e = .returned (.bool true) ∧ Below w.heap.size w w' := by
  have HO1 := Lib.hid O1
  have HO2 := Lib.hid O2
  have HT := Lib.hid hT
  clear O1 O2 hT
  go_enter Tryd.func3, Tryd.ntmps3
  go_wp2_with fail
  refine (awake_any w HT.out hg0).mono ?_
  rintro e w1 ⟨rfl, hg1⟩
  have G1 := Lib.hid hg1
  clear hg1
  by_cases h1 : (100 : Int) < (l2 : Int)
  · go_wp2_with fail
    go_ret
    exact ⟨rfl, grown_below G1.out⟩
  · by_cases h2 : (100 : Int) < (l1 : Int)
    · go_wp2_with fail
      go_ret
      exact ⟨rfl, grown_below G1.out⟩
    · go_wp2_with fail
      refine (of_new n A1 l1 c1 X1 w1 ((HO1.out.below (grown_below G1.out)).wide G1.out.size)).mono ?_
      rintro e w2 ⟨b1, rfl, hb1, hs2, hg2⟩
      have G2 := Lib.hid (grown_none G1.out hg2)
      have S2 := Lib.hid hs2
      have hz1 := G1.out.size
      clear hs2 hg2
      go_wp2_with fail
      refine (new_ex m w2).mono ?_
      rintro e w3 ⟨b2, rfl, hb2, hs3, hg3⟩
      have hne : b1 < b2 := by have := S2.out.at_.lt; omega
      have G3 := Lib.hid (grown_none G2.out hg3)
      have S3 := Lib.hid (S2.out.grown hg3 (by simp))
      have T3 := Lib.hid hs3
      clear hs3 hg3 S2 G2
      go_wp2_with fail
      refine (rof_any n A1 l1 c1 X1 w3 ((HO1.out.below (grown_below G3.out)).wide G3.out.size)).mono ?_
      rintro e w4 ⟨r1, g1, rfl, hr1, hgg1, hr4, hg4⟩
      have G4 := Lib.hid (grown_none G3.out hg4)
      have S4 := Lib.hid (S3.out.grown hg4 (by simp))
      have T4 := Lib.hid (T3.out.grown hg4 (by simp))
      have R4 := Lib.hid hr4
      have hz3 := G3.out.size
      clear hr4 hg4 S3 T3 G3
      go_wp2_with fail
      refine (rnew_any m w4).mono ?_
      rintro e w5 ⟨r2, g2, rfl, hr2, hgg2, hr5, hg5⟩
      have hg12 : g1 < g2 := by have := R4.out.row.lt; omega
      have P0 : RowKit.Hid (Play w w5 b1 r1 g1 (held n) (ofs (held n) X1 l1) b2 r2 g2 (held m) (fun _ => false)) :=
        Lib.hid ⟨⟨S4.out.grown hg5 (by simp), R4.out.grown hg5 (by simp) (by simp), T4.out.grown hg5 (by simp), hr5, by omega, by omega⟩, grown_below (grown_none G4.out hg5), by omega, by omega, by omega, by omega⟩
      clear hr5 hg5 S4 T4 R4 G4
      go_wp2_with fail
      go_loopw [10, 11, 12, 13, 14] (fun s t r o i wr => ∃ (k b1 r1 g1 n1 : Nat) (S : Nat → Bool) (b2 r2 g2 n2 : Nat) (T : Nat → Bool), k ≤ l2 ∧ s = .pointer (some ⟨b1, 0, none⟩) ∧ t = .pointer (some ⟨b2, 0, none⟩) ∧ r = .pointer (some ⟨r1, 0, none⟩) ∧ o = .pointer (some ⟨r2, 0, none⟩) ∧ i = .int .i64 (k : Int) ∧ Play w wr b1 r1 g1 n1 S b2 r2 g2 n2 T) (fun _ _ _ _ i _ => l2 - (intOf i).toNat)
      case atStart => exact ⟨0, _, _, _, _, _, _, _, _, _, _, by omega, rfl, rfl, rfl, rfl, rfl, P0.out⟩
      case round =>
        clear P0 hg12 hgg2 hr2 hgg1 hr1 hne hb1 hb2
        obtain ⟨k, b1, r1, g1, n1, S0, b2, r2, g2, n2, T, hk, rfl, rfl, rfl, rfl, rfl, hP⟩ := hrel
        have P' := Lib.hid hP
        clear hP
        by_cases hlt : k < l2
        · obtain ⟨b, o, rfl, hbo, c0, c1'⟩ := (HO2.out.below P'.out.bel).each k hlt
          have hltI : (k : Int) < (l2 : Int) := by omega
          have h0I : (0 : Int) ≤ (k : Int) := by omega
          go_wp2_with fail
          refine (done_any w.heap.size b1 r1 g1 n1 S0 b2 r2 g2 n2 T (X k) (Y k) wr P'.out.four P'.out.bel.size P'.out.h1 P'.out.h2).mono ?_
          rintro e wd ⟨rfl, ⟨S, hF⟩, hBd⟩
          have P := Lib.hid (Play.mk hF (P'.out.bel.trans hBd) P'.out.h1 P'.out.h2 P'.out.h3 P'.out.h4)
          have d0 : wd.cell? ⟨b, o + k * 2, none⟩ = some (.int .i64 (X k)) := (hBd.cell (p := ⟨b, _, none⟩) hbo).trans c0
          clear hF hBd c0 c1' P'
          by_cases h6 : X k = 6
          · rw [h6] at d0
            clear h6
            go_wp2_with fail
            refine (copy_ex b1 n1 S wd P.out.four.s).mono ?_
            rintro e wv ⟨bc, rfl, hbc, hsc, hgc⟩
            have hbz : b < wd.heap.size := Nat.lt_of_lt_of_le hbo P.out.bel.size
            have d0v : wv.cell? ⟨b, o + k * 2, none⟩ = some (.int .i64 6) := ((grown_below hgc).cell (p := ⟨b, _, none⟩) hbz).trans d0
            have PC := Lib.hid (P.out.copied hbc hsc hgc)
            clear P d0 hbz hbc hsc hgc
            rename RowKit.Hid (Play w wv bc r1 g1 n1 S b2 r2 g2 n2 T) => P
            go_wp2_with fail
            refine (list_row bc n1 S wv P.out.four.s (HT.out.below P.out.bel hg0) (by have := P.out.bel.size; omega)).mono ?_
            obtain ⟨L, hL⟩ : ∃ L, L = all S := ⟨_, rfl⟩
            have hlen : L.length = cnt S 1024 := by rw [hL]; exact all_length S
            have hsame : RowKit.Hid (L = all T ↔ S = T) := Lib.hid (by rw [hL]; exact all_same P.out.four.s.lt P.out.four.t.lt)
            rw [← hL]
            have HL := Lib.hid hL
            have HN := Lib.hid hlen
            clear hL hlen
            rintro e w5 ⟨⟨A, c, rfl, hr5, _⟩, hg5⟩
            have R5 := Lib.hid hr5
            have P5 := Lib.hid (P.out.grown hg5)
            clear hr5 hg5
            go_wp2_with fail
            refine (width_any bc n1 S w5 P5.out.four.s).mono ?_
            rintro e w6 ⟨rfl, rfl⟩
            go_wp2_with fail
            refine (len_any bc n1 S _ P5.out.four.s).mono ?_
            rw [← HN.out]
            rintro e w7 ⟨rfl, rfl⟩
            go_wp2_with fail
            refine (rlist_row r1 g1 n1 S _ P5.out.four.r).mono ?_
            rw [← HL.out]
            rintro e w8 ⟨⟨A8, c8, rfl, hr8, _⟩, hg8⟩
            have R8 := Lib.hid hr8
            have Q8 := Lib.hid (R5.out.below (grown_below hg8))
            have P8 := Lib.hid (P5.out.grown hg8)
            clear hr8 hg8
            go_wp2_with fail
            refine (ints_yes _ _ L w8 Q8.out R8.out).mono ?_
            rintro e w9 ⟨rfl, d9, rfl⟩
            have ch := P8.out.four.r.head
            go_wp2_with fail
            refine (same_any bc n1 S b2 n2 T _ (P8.out.four.s.drewN d9) (P8.out.four.t.drewN d9)).mono ?_
            rintro e w10 ⟨⟨q1, rfl, hq1⟩, hg10⟩
            have Q1 := Lib.hid hq1
            have P10 := Lib.hid ((P8.out.drewN d9).grown hg10)
            clear hq1 hg10 ch
            go_wp2_with fail
            refine (rlist_row r1 g1 n1 S _ P10.out.four.r).mono ?_
            rw [← HL.out]
            rintro e w11 ⟨⟨A11, c11, rfl, hr11, _⟩, hg11⟩
            have R11 := Lib.hid hr11
            have P11 := Lib.hid (P10.out.grown hg11)
            clear hr11 hg11
            go_wp2_with fail
            refine (rlist_row r2 g2 n2 T _ P11.out.four.o).mono ?_
            obtain ⟨M, hM⟩ : ∃ M, M = all T := ⟨_, rfl⟩
            rw [← hM]
            have HM := Lib.hid hM
            clear hM
            rintro e w12 ⟨⟨A12, c12, rfl, hr12, _⟩, hg12⟩
            have R12 := Lib.hid hr12
            have Q12 := Lib.hid (R11.out.below (grown_below hg12))
            have P12 := Lib.hid (P11.out.grown hg12)
            clear hr12 hg12
            go_wp2_with fail
            refine (ints_row _ _ L M w12 Q12.out R12.out).mono ?_
            rintro e w13 ⟨⟨q2, rfl, hq2⟩, d13, rfl⟩
            have hqq : q2 = q1 := by
              rw [Bool.eq_iff_iff, hq2, HM.out, hsame.out]; exact Q1.out.symm
            subst hqq
            have P13 := Lib.hid (P12.out.drewN d13)
            clear hq2
            go_wp2_with fail
            go_roundw
            case rel => exact ⟨k + 1, bc, r1, g1, n1, S, b2, r2, g2, n2, T, by omega, rfl, rfl, rfl, rfl, by go_num, P13.out⟩
            case measure => first | (simp [intOf]; done) | (simp [intOf]; omega)
          · have t6 : (X k == 6) = false := by simpa using h6
            by_cases h7 : X k = 7
            · rw [h7] at d0
              clear t6 h6 h7
              go_wp2_with fail
              have PS := Lib.hid P.out.swap
              clear P
              rename RowKit.Hid (Play w wd b2 r2 g2 n2 T b1 r1 g1 n1 S) => P
              refine (list_row b2 n2 T wd P.out.four.s (HT.out.below P.out.bel hg0) (by have := P.out.bel.size; omega)).mono ?_
              obtain ⟨L, hL⟩ : ∃ L, L = all T := ⟨_, rfl⟩
              have hlen : L.length = cnt T 1024 := by rw [hL]; exact all_length T
              have hsame : RowKit.Hid (L = all S ↔ T = S) := Lib.hid (by rw [hL]; exact all_same P.out.four.s.lt P.out.four.t.lt)
              rw [← hL]
              have HL := Lib.hid hL
              have HN := Lib.hid hlen
              clear hL hlen
              rintro e w5 ⟨⟨A, c, rfl, hr5, _⟩, hg5⟩
              have R5 := Lib.hid hr5
              have P5 := Lib.hid (P.out.grown hg5)
              clear hr5 hg5
              go_wp2_with fail
              refine (width_any b2 n2 T w5 P5.out.four.s).mono ?_
              rintro e w6 ⟨rfl, rfl⟩
              go_wp2_with fail
              refine (len_any b2 n2 T _ P5.out.four.s).mono ?_
              rw [← HN.out]
              rintro e w7 ⟨rfl, rfl⟩
              go_wp2_with fail
              refine (rlist_row r2 g2 n2 T _ P5.out.four.r).mono ?_
              rw [← HL.out]
              rintro e w8 ⟨⟨A8, c8, rfl, hr8, _⟩, hg8⟩
              have R8 := Lib.hid hr8
              have Q8 := Lib.hid (R5.out.below (grown_below hg8))
              have P8 := Lib.hid (P5.out.grown hg8)
              clear hr8 hg8
              go_wp2_with fail
              refine (ints_yes _ _ L w8 Q8.out R8.out).mono ?_
              rintro e w9 ⟨rfl, d9, rfl⟩
              have ch := P8.out.four.r.head
              go_wp2_with fail
              refine (same_any b2 n2 T b1 n1 S _ (P8.out.four.s.drewN d9) (P8.out.four.t.drewN d9)).mono ?_
              rintro e w10 ⟨⟨q1, rfl, hq1⟩, hg10⟩
              have Q1 := Lib.hid hq1
              have P10 := Lib.hid ((P8.out.drewN d9).grown hg10)
              clear hq1 hg10 ch
              go_wp2_with fail
              refine (rlist_row r2 g2 n2 T _ P10.out.four.r).mono ?_
              rw [← HL.out]
              rintro e w11 ⟨⟨A11, c11, rfl, hr11, _⟩, hg11⟩
              have R11 := Lib.hid hr11
              have P11 := Lib.hid (P10.out.grown hg11)
              clear hr11 hg11
              go_wp2_with fail
              refine (rlist_row r1 g1 n1 S _ P11.out.four.o).mono ?_
              obtain ⟨M, hM⟩ : ∃ M, M = all S := ⟨_, rfl⟩
              rw [← hM]
              have HM := Lib.hid hM
              clear hM
              rintro e w12 ⟨⟨A12, c12, rfl, hr12, _⟩, hg12⟩
              have R12 := Lib.hid hr12
              have Q12 := Lib.hid (R11.out.below (grown_below hg12))
              have P12 := Lib.hid (P11.out.grown hg12)
              clear hr12 hg12
              go_wp2_with fail
              refine (ints_row _ _ L M w12 Q12.out R12.out).mono ?_
              rintro e w13 ⟨⟨q2, rfl, hq2⟩, d13, rfl⟩
              have hqq : q2 = q1 := by
                rw [Bool.eq_iff_iff, hq2, HM.out, hsame.out]; exact Q1.out.symm
              subst hqq
              have P13 := Lib.hid (P12.out.drewN d13)
              clear hq2
              go_wp2_with fail
              go_roundw
              case rel => exact ⟨k + 1, b2, r2, g2, n2, T, b1, r1, g1, n1, S, by omega, rfl, rfl, rfl, rfl, by go_num, P13.out⟩
              case measure => first | (simp [intOf]; done) | (simp [intOf]; omega)
            · have t7 : (X k == 7) = false := by simpa using h7
              clear h6 h7
              obtain ⟨wv, hwv⟩ : ∃ v, v = wd := ⟨_, rfl⟩
              subst hwv
              go_wp2_with fail
              refine (list_row b1 n1 S wv P.out.four.s (HT.out.below P.out.bel hg0) (by have := P.out.bel.size; omega)).mono ?_
              obtain ⟨L, hL⟩ : ∃ L, L = all S := ⟨_, rfl⟩
              have hlen : L.length = cnt S 1024 := by rw [hL]; exact all_length S
              have hsame : RowKit.Hid (L = all T ↔ S = T) := Lib.hid (by rw [hL]; exact all_same P.out.four.s.lt P.out.four.t.lt)
              rw [← hL]
              have HL := Lib.hid hL
              have HN := Lib.hid hlen
              clear hL hlen
              rintro e w5 ⟨⟨A, c, rfl, hr5, _⟩, hg5⟩
              have R5 := Lib.hid hr5
              have P5 := Lib.hid (P.out.grown hg5)
              clear hr5 hg5
              go_wp2_with fail
              refine (width_any b1 n1 S w5 P5.out.four.s).mono ?_
              rintro e w6 ⟨rfl, rfl⟩
              go_wp2_with fail
              refine (len_any b1 n1 S _ P5.out.four.s).mono ?_
              rw [← HN.out]
              rintro e w7 ⟨rfl, rfl⟩
              go_wp2_with fail
              refine (rlist_row r1 g1 n1 S _ P5.out.four.r).mono ?_
              rw [← HL.out]
              rintro e w8 ⟨⟨A8, c8, rfl, hr8, _⟩, hg8⟩
              have R8 := Lib.hid hr8
              have Q8 := Lib.hid (R5.out.below (grown_below hg8))
              have P8 := Lib.hid (P5.out.grown hg8)
              clear hr8 hg8
              go_wp2_with fail
              refine (ints_yes _ _ L w8 Q8.out R8.out).mono ?_
              rintro e w9 ⟨rfl, d9, rfl⟩
              have ch := P8.out.four.r.head
              go_wp2_with fail
              refine (same_any b1 n1 S b2 n2 T _ (P8.out.four.s.drewN d9) (P8.out.four.t.drewN d9)).mono ?_
              rintro e w10 ⟨⟨q1, rfl, hq1⟩, hg10⟩
              have Q1 := Lib.hid hq1
              have P10 := Lib.hid ((P8.out.drewN d9).grown hg10)
              clear hq1 hg10 ch
              go_wp2_with fail
              refine (rlist_row r1 g1 n1 S _ P10.out.four.r).mono ?_
              rw [← HL.out]
              rintro e w11 ⟨⟨A11, c11, rfl, hr11, _⟩, hg11⟩
              have R11 := Lib.hid hr11
              have P11 := Lib.hid (P10.out.grown hg11)
              clear hr11 hg11
              go_wp2_with fail
              refine (rlist_row r2 g2 n2 T _ P11.out.four.o).mono ?_
              obtain ⟨M, hM⟩ : ∃ M, M = all T := ⟨_, rfl⟩
              rw [← hM]
              have HM := Lib.hid hM
              clear hM
              rintro e w12 ⟨⟨A12, c12, rfl, hr12, _⟩, hg12⟩
              have R12 := Lib.hid hr12
              have Q12 := Lib.hid (R11.out.below (grown_below hg12))
              have P12 := Lib.hid (P11.out.grown hg12)
              clear hr12 hg12
              go_wp2_with fail
              refine (ints_row _ _ L M w12 Q12.out R12.out).mono ?_
              rintro e w13 ⟨⟨q2, rfl, hq2⟩, d13, rfl⟩
              have hqq : q2 = q1 := by
                rw [Bool.eq_iff_iff, hq2, HM.out, hsame.out]; exact Q1.out.symm
              subst hqq
              have P13 := Lib.hid (P12.out.drewN d13)
              clear hq2
              go_wp2_with fail
              go_roundw
              case rel => exact ⟨k + 1, b1, r1, g1, n1, S, b2, r2, g2, n2, T, by omega, rfl, rfl, rfl, rfl, by go_num, P13.out⟩
              case measure => first | (simp [intOf]; done) | (simp [intOf]; omega)
        · obtain rfl : l2 = k := by omega
          go_wp2_with fail
          go_ret
          exact ⟨rfl, P'.out.bel⟩

end Go.Proofs.YtnlpibikonenmaaDoor
