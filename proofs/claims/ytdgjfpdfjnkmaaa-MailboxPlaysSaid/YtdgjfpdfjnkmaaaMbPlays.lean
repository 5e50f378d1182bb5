/-
  The walk over tronagelaw04.MailboxPlays.
-/
import Derived.Test.YtdgjfpdfjnkmaaaMbPlay
namespace Go.Proofs.Ytdgjfpdfjnkmaaa
open Go.RowKit
set_option linter.unusedVariables false

attribute [local go_sem ↓] Go.wp_at_zero Go.wp_at_succ

theorem below_same {w w8 W : World} {B : Nat} (h : Below B w w8) (e : W.heap = w8.heap) (e1 : W.os = w8.os) (e2 : W.tape = w8.tape) (e3 : W.output = w8.output) : Below B w W :=
  ⟨e1.trans h.os, e2.trans h.tape, e3.trans h.output, by rw [e]; exact h.size, fun i hi => by rw [e]; exact h.block i hi⟩

set_option maxRecDepth 100000 in
set_option maxHeartbeats 32000000 in
theorem plays_any (a : Int) (ba : -9223372036854775808 ≤ a ∧ a ≤ 9223372036854775807) (b : Int) (bb : -9223372036854775808 ≤ b ∧ b ≤ 9223372036854775807) (A : Option Addr) (n c : Nat) (X Y : Nat → Int) (w : World) (O : Ops w w.heap.size A n X Y) :
    Calls Try.prog 3 #[.int .i64 a, .int .i64 b, .slice A n c] w fun e w' => e = .returned (.bool true) ∧ Below w.heap.size w w' := by
  have HO := Lib.hid O
  clear O
  go_enter Try.func3, Try.ntmps3
  go_wp2_with fail
  refine (awake_any _).mono ?_
  rintro e w1 ⟨rfl, hb1⟩
  have HB1 := Lib.hid hb1
  clear hb1
  go_wp2_with fail
  refine (newI_any a _).mono ?_
  rintro e w2 ⟨rfl, hw2⟩
  have HW2 := Lib.hid hw2
  clear hw2
  go_wp2_with fail
  refine (newI_any b _).mono ?_
  rintro e w3 ⟨rfl, hw3⟩
  have HW3 := Lib.hid hw3
  clear hw3
  go_wp2_with fail
  refine (rnew_any a _).mono ?_
  rintro e w4 ⟨rfl, hw4⟩
  have HW4 := Lib.hid hw4
  clear hw4
  go_wp2_with fail
  refine (rnew_any b _).mono ?_
  rintro e w5 ⟨rfl, hw5⟩
  have h := play_start HB1.out a b HW2.out HW3.out HW4.out hw5
  clear hw5 HW4 HW3 HW2
  generalize rm a = R at h
  generalize rm b = R' at h
  have H2 := Lib.hid h
  clear h
  by_cases h200 : (200 : Int) < (n : Int)
  · go_wp2_with fail
    go_ret
    exact ⟨rfl, H2.out.two.bel⟩
  have hn : n ≤ 200 := by omega
  go_wp2_with fail
  go_loopw [12] (fun i wr => ∃ (k : Nat) (L M : List Int), k ≤ n ∧ i = .int .i64 (k : Int) ∧ Play w (w1.heap.size + 1) w1.heap.size R (w2.heap.size + 1) w2.heap.size R' w3.heap.size w4.heap.size wr L M L M) (fun i _ => n - (intOf i).toNat)
  case atStart => exact ⟨0, [], [], by omega, rfl, H2.out⟩
  case round =>
    obtain ⟨k, L, M, hk, rfl, hP⟩ := hrel
    have P := Lib.hid hP
    have hl64 := hP.two.one.len
    have hm64 := hP.two.two.len
    have hlR := hP.two.one.le
    have hmR := hP.two.two.le
    clear hP
    by_cases hlt : k < n
    · obtain ⟨b0, o0, rfl, hbo, c0, c1⟩ := (HO.out.below P.out.two.bel).each k hlt
      have rY := HO.out.ry k hlt
      have hlow : ∀ W, Below w.heap.size w W → W.cell? ⟨b0, o0 + k * 2 + 1, none⟩ = some (.int .i64 (Y k)) := fun W hW => by
        obtain ⟨b', o', he, _, _, h3⟩ := (HO.out.below hW).each k hlt
        obtain ⟨rfl, rfl⟩ := same_addr he
        exact h3
      have HL := Lib.hid hlow
      clear hlow
      have hk0 : (0 : Int) ≤ (k : Int) := by omega
      have hk1 : (k : Int) < (n : Int) := by omega
      cases x1 : (X k == 1)
      · cases x2 : (X k == 2)
        · cases x3 : (X k == 3)
          · cases x4 : (X k == 4)
            · cases x5 : (X k == 5)
              · go_wp2_with fail
                clear x1 x2 x3 x4 x5
                obtain ⟨L', M', q'⟩ : ∃ L' M', Play w (w1.heap.size + 1) w1.heap.size R (w2.heap.size + 1) w2.heap.size R' w3.heap.size w4.heap.size wr L' M' L' M' := ⟨_, _, P.out⟩
                have Q := Lib.hid q'
                clear q'
                go_wp2_with fail
                refine (pl_all Q.out).mono ?_
                rintro e wA ⟨a1, p1, rfl, i1, hQ, k1⟩
                have QA := Lib.hid hQ
                have I1 := Lib.hid i1
                clear hQ i1 k1
                go_wp2_with fail
                refine (pl_all' QA.out).mono ?_
                rintro e wB ⟨a2, p2, rfl, i2, hQ, k2⟩
                have QB := Lib.hid hQ
                have I2 := Lib.hid i2
                have I1B := Lib.hid (QA.out.stay k2 (by simp) _ _ I1.out)
                clear hQ i2 k2
                go_wp2_with fail
                refine (lenI_any _ _ _ _ _ QB.out.two.one).mono ?_
                rintro e wC ⟨rfl, rfl⟩
                go_wp2_with fail
                refine (roomI_any _ _ _ _ _ QB.out.two.one).mono ?_
                rintro e wC ⟨rfl, rfl⟩
                obtain ⟨A1, s1, z1, j1, _⟩ := QB.out.r.ex
                obtain ⟨A2, s2, z2, j2, _⟩ := QB.out.r'.ex
                have f0 := z1.cell 0
                have f1 := z1.cell 1
                have f2 := z2.cell 1
                simp only [List.getElem?_toArray, List.getElem?_cons_succ, List.getElem?_cons_zero] at f0 f1 f2
                have J1 := Lib.hid j1
                have J2 := Lib.hid j2
                clear z1 z2 j1 j2
                go_wp2_with fail
                refine (ints_same _ _ _ _ _ _ L' _ I1B.out J1.out rfl rfl).mono ?_
                rintro e wC ⟨rfl, m1, rfl⟩
                go_wp2_with fail
                refine (ints_same _ _ _ _ _ _ M' _ (I2.out.drewN _) (J2.out.drewN _) rfl rfl).mono ?_
                rintro e wC ⟨rfl, m2, rfl⟩
                go_wp2_with fail
                go_roundw
                case rel => exact ⟨k + 1, L', M', by omega, by go_num, by first | exact (QB.out.drewN _).drewN _ | exact QB.out.drewN _⟩
                case measure => simp [intOf]; omega
              · have x5' : X k = 5 := by simpa using x5
                rw [x5'] at c0
                clear x1 x2 x3 x4 x5
                go_wp2_with fail
                refine (pl_move' P.out).mono ?_
                rintro e w6 ⟨rfl, h6⟩
                have P6 := Lib.hid h6
                clear h6
                go_wp2_with fail
                refine (pl_rmove' P6.out hm64 hlR).mono ?_
                rintro e w7 ⟨rfl, h7⟩
                have P7 := Lib.hid h7
                clear h7
                go_wp2_with fail
                obtain ⟨L', M', q'⟩ : ∃ L' M', Play w (w1.heap.size + 1) w1.heap.size R (w2.heap.size + 1) w2.heap.size R' w3.heap.size w4.heap.size w7 L' M' L' M' := ⟨_, _, P7.out⟩
                have Q := Lib.hid q'
                clear q'
                go_wp2_with fail
                refine (pl_all Q.out).mono ?_
                rintro e wA ⟨a1, p1, rfl, i1, hQ, k1⟩
                have QA := Lib.hid hQ
                have I1 := Lib.hid i1
                clear hQ i1 k1
                go_wp2_with fail
                refine (pl_all' QA.out).mono ?_
                rintro e wB ⟨a2, p2, rfl, i2, hQ, k2⟩
                have QB := Lib.hid hQ
                have I2 := Lib.hid i2
                have I1B := Lib.hid (QA.out.stay k2 (by simp) _ _ I1.out)
                clear hQ i2 k2
                go_wp2_with fail
                refine (lenI_any _ _ _ _ _ QB.out.two.one).mono ?_
                rintro e wC ⟨rfl, rfl⟩
                go_wp2_with fail
                refine (roomI_any _ _ _ _ _ QB.out.two.one).mono ?_
                rintro e wC ⟨rfl, rfl⟩
                obtain ⟨A1, s1, z1, j1, _⟩ := QB.out.r.ex
                obtain ⟨A2, s2, z2, j2, _⟩ := QB.out.r'.ex
                have f0 := z1.cell 0
                have f1 := z1.cell 1
                have f2 := z2.cell 1
                simp only [List.getElem?_toArray, List.getElem?_cons_succ, List.getElem?_cons_zero] at f0 f1 f2
                have J1 := Lib.hid j1
                have J2 := Lib.hid j2
                clear z1 z2 j1 j2
                go_wp2_with fail
                refine (ints_same _ _ _ _ _ _ L' _ I1B.out J1.out rfl rfl).mono ?_
                rintro e wC ⟨rfl, m1, rfl⟩
                go_wp2_with fail
                refine (ints_same _ _ _ _ _ _ M' _ (I2.out.drewN _) (J2.out.drewN _) rfl rfl).mono ?_
                rintro e wC ⟨rfl, m2, rfl⟩
                go_wp2_with fail
                go_roundw
                case rel => exact ⟨k + 1, L', M', by omega, by go_num, by first | exact (QB.out.drewN _).drewN _ | exact QB.out.drewN _⟩
                case measure => simp [intOf]; omega
            · have x4' : X k = 4 := by simpa using x4
              rw [x4'] at c0
              clear x1 x2 x3 x4
              go_wp2_with fail
              refine (pl_move P.out).mono ?_
              rintro e w6 ⟨rfl, h6⟩
              have P6 := Lib.hid h6
              clear h6
              go_wp2_with fail
              refine (pl_rmove P6.out hl64 hmR).mono ?_
              rintro e w7 ⟨rfl, h7⟩
              have P7 := Lib.hid h7
              clear h7
              go_wp2_with fail
              obtain ⟨L', M', q'⟩ : ∃ L' M', Play w (w1.heap.size + 1) w1.heap.size R (w2.heap.size + 1) w2.heap.size R' w3.heap.size w4.heap.size w7 L' M' L' M' := ⟨_, _, P7.out⟩
              have Q := Lib.hid q'
              clear q'
              go_wp2_with fail
              refine (pl_all Q.out).mono ?_
              rintro e wA ⟨a1, p1, rfl, i1, hQ, k1⟩
              have QA := Lib.hid hQ
              have I1 := Lib.hid i1
              clear hQ i1 k1
              go_wp2_with fail
              refine (pl_all' QA.out).mono ?_
              rintro e wB ⟨a2, p2, rfl, i2, hQ, k2⟩
              have QB := Lib.hid hQ
              have I2 := Lib.hid i2
              have I1B := Lib.hid (QA.out.stay k2 (by simp) _ _ I1.out)
              clear hQ i2 k2
              go_wp2_with fail
              refine (lenI_any _ _ _ _ _ QB.out.two.one).mono ?_
              rintro e wC ⟨rfl, rfl⟩
              go_wp2_with fail
              refine (roomI_any _ _ _ _ _ QB.out.two.one).mono ?_
              rintro e wC ⟨rfl, rfl⟩
              obtain ⟨A1, s1, z1, j1, _⟩ := QB.out.r.ex
              obtain ⟨A2, s2, z2, j2, _⟩ := QB.out.r'.ex
              have f0 := z1.cell 0
              have f1 := z1.cell 1
              have f2 := z2.cell 1
              simp only [List.getElem?_toArray, List.getElem?_cons_succ, List.getElem?_cons_zero] at f0 f1 f2
              have J1 := Lib.hid j1
              have J2 := Lib.hid j2
              clear z1 z2 j1 j2
              go_wp2_with fail
              refine (ints_same _ _ _ _ _ _ L' _ I1B.out J1.out rfl rfl).mono ?_
              rintro e wC ⟨rfl, m1, rfl⟩
              go_wp2_with fail
              refine (ints_same _ _ _ _ _ _ M' _ (I2.out.drewN _) (J2.out.drewN _) rfl rfl).mono ?_
              rintro e wC ⟨rfl, m2, rfl⟩
              go_wp2_with fail
              go_roundw
              case rel => exact ⟨k + 1, L', M', by omega, by go_num, by first | exact (QB.out.drewN _).drewN _ | exact QB.out.drewN _⟩
              case measure => simp [intOf]; omega
          · have x3' : X k = 3 := by simpa using x3
            rw [x3'] at c0
            clear x1 x2 x3
            obtain ⟨A0, s0, z0, j0, _⟩ := P.out.r.ex
            have hne : w3.heap.size ∉ [w1.heap.size] := by simpa using P.out.r.notChan P.out.two.one.ch
            have hs : ∀ (W : World) (S : List Nat), Keeps S wr W → w3.heap.size ∉ S → W.cell? ⟨w3.heap.size, 1, none⟩ = some (.slice A0 L.length s0) := fun W S hk hn => by
              rw [(z0.keeps hk hn).cell]; rfl
            have HS := Lib.hid hs
            have HN := Lib.hid hne
            have J0 := Lib.hid j0
            clear z0 j0 hne hs
            go_wp2_with fail
            go_region_held3 (fun w' => w'.cell? ⟨w3.heap.size, 1, none⟩ = some (.slice A0 L.length s0))
              (first | exact HS.out _ _ (((Keeps.refl [w1.heap.size] wr).drew.trans K1.out).drewN _) HN.out | exact HS.out _ _ ((Keeps.refl [w1.heap.size] wr).drew.trans K1.out) HN.out | exact HS.out _ [] (Keeps.refl _ wr).drew (by simp))
              (first
                | (go_at_call 16; refine Calls.mono (pl_all P.out.drew) ?_; rintro e w6 ⟨a0, p0, rfl, i0, h6, k0⟩; have P6 := Lib.hid h6; have I0 := Lib.hid i0; have K1 := Lib.hid k0; clear h6 i0 k0)
                | (go_at_call 15; refine Calls.mono (ints_same a0 A0 _ _ _ _ L _ I0.out (P.out.drew.stay K1.out (by simp) _ _ J0.out.drew) rfl rfl) ?_; rintro e w7 ⟨rfl, m0, rfl⟩))
            go_wp2_with fail
            obtain ⟨L', M', q'⟩ : ∃ L' M', Play w (w1.heap.size + 1) w1.heap.size R (w2.heap.size + 1) w2.heap.size R' w3.heap.size w4.heap.size _ L' M' L' M' := ⟨_, _, (P6.out.drewN _)⟩
            have Q := Lib.hid q'
            clear q'
            go_wp2_with fail
            refine (pl_all Q.out).mono ?_
            rintro e wA ⟨a1, p1, rfl, i1, hQ, k1⟩
            have QA := Lib.hid hQ
            have I1 := Lib.hid i1
            clear hQ i1 k1
            go_wp2_with fail
            refine (pl_all' QA.out).mono ?_
            rintro e wB ⟨a2, p2, rfl, i2, hQ, k2⟩
            have QB := Lib.hid hQ
            have I2 := Lib.hid i2
            have I1B := Lib.hid (QA.out.stay k2 (by simp) _ _ I1.out)
            clear hQ i2 k2
            go_wp2_with fail
            refine (lenI_any _ _ _ _ _ QB.out.two.one).mono ?_
            rintro e wC ⟨rfl, rfl⟩
            go_wp2_with fail
            refine (roomI_any _ _ _ _ _ QB.out.two.one).mono ?_
            rintro e wC ⟨rfl, rfl⟩
            obtain ⟨A1, s1, z1, j1, _⟩ := QB.out.r.ex
            obtain ⟨A2, s2, z2, j2, _⟩ := QB.out.r'.ex
            have f0 := z1.cell 0
            have f1 := z1.cell 1
            have f2 := z2.cell 1
            simp only [List.getElem?_toArray, List.getElem?_cons_succ, List.getElem?_cons_zero] at f0 f1 f2
            have J1 := Lib.hid j1
            have J2 := Lib.hid j2
            clear z1 z2 j1 j2
            go_wp2_with fail
            refine (ints_same _ _ _ _ _ _ L' _ I1B.out J1.out rfl rfl).mono ?_
            rintro e wC ⟨rfl, m1, rfl⟩
            go_wp2_with fail
            refine (ints_same _ _ _ _ _ _ M' _ (I2.out.drewN _) (J2.out.drewN _) rfl rfl).mono ?_
            rintro e wC ⟨rfl, m2, rfl⟩
            go_wp2_with fail
            go_roundw
            case rel => exact ⟨k + 1, L', M', by omega, by go_num, by first | exact (QB.out.drewN _).drewN _ | exact QB.out.drewN _⟩
            case measure => simp [intOf]; omega
        · have x2' : X k = 2 := by simpa using x2
          rw [x2'] at c0
          clear x1 x2
          cases L with
          | nil =>
            go_wp2_with fail
            refine (pollI_no _ _ _ _ P.out.two.one).mono ?_
            rintro e w6 ⟨rfl, rfl⟩
            go_wp2_with fail
            refine (rpoll_no _ _ _ P.out.r).mono ?_
            rintro e w6 ⟨rfl, rfl⟩
            go_wp2_with fail
            obtain ⟨L', M', q'⟩ : ∃ L' M', Play w (w1.heap.size + 1) w1.heap.size R (w2.heap.size + 1) w2.heap.size R' w3.heap.size w4.heap.size wr L' M' L' M' := ⟨_, _, P.out⟩
            have Q := Lib.hid q'
            clear q'
            go_wp2_with fail
            refine (pl_all Q.out).mono ?_
            rintro e wA ⟨a1, p1, rfl, i1, hQ, k1⟩
            have QA := Lib.hid hQ
            have I1 := Lib.hid i1
            clear hQ i1 k1
            go_wp2_with fail
            refine (pl_all' QA.out).mono ?_
            rintro e wB ⟨a2, p2, rfl, i2, hQ, k2⟩
            have QB := Lib.hid hQ
            have I2 := Lib.hid i2
            have I1B := Lib.hid (QA.out.stay k2 (by simp) _ _ I1.out)
            clear hQ i2 k2
            go_wp2_with fail
            refine (lenI_any _ _ _ _ _ QB.out.two.one).mono ?_
            rintro e wC ⟨rfl, rfl⟩
            go_wp2_with fail
            refine (roomI_any _ _ _ _ _ QB.out.two.one).mono ?_
            rintro e wC ⟨rfl, rfl⟩
            obtain ⟨A1, s1, z1, j1, _⟩ := QB.out.r.ex
            obtain ⟨A2, s2, z2, j2, _⟩ := QB.out.r'.ex
            have f0 := z1.cell 0
            have f1 := z1.cell 1
            have f2 := z2.cell 1
            simp only [List.getElem?_toArray, List.getElem?_cons_succ, List.getElem?_cons_zero] at f0 f1 f2
            have J1 := Lib.hid j1
            have J2 := Lib.hid j2
            clear z1 z2 j1 j2
            go_wp2_with fail
            refine (ints_same _ _ _ _ _ _ L' _ I1B.out J1.out rfl rfl).mono ?_
            rintro e wC ⟨rfl, m1, rfl⟩
            go_wp2_with fail
            refine (ints_same _ _ _ _ _ _ M' _ (I2.out.drewN _) (J2.out.drewN _) rfl rfl).mono ?_
            rintro e wC ⟨rfl, m2, rfl⟩
            go_wp2_with fail
            go_roundw
            case rel => exact ⟨k + 1, L', M', by omega, by go_num, by first | exact (QB.out.drewN _).drewN _ | exact QB.out.drewN _⟩
            case measure => simp [intOf]; omega
          | cons x L =>
            go_wp2_with fail
            refine (pl_poll_ok P.out).mono ?_
            rintro e w6 ⟨rfl, h6⟩
            have P6 := Lib.hid h6
            clear h6
            go_wp2_with fail
            refine (pl_rpoll_ok P6.out).mono ?_
            rintro e w7 ⟨rfl, h7⟩
            have P7 := Lib.hid h7
            clear h7
            go_wp2_with fail
            obtain ⟨L', M', q'⟩ : ∃ L' M', Play w (w1.heap.size + 1) w1.heap.size R (w2.heap.size + 1) w2.heap.size R' w3.heap.size w4.heap.size w7 L' M' L' M' := ⟨_, _, P7.out⟩
            have Q := Lib.hid q'
            clear q'
            go_wp2_with fail
            refine (pl_all Q.out).mono ?_
            rintro e wA ⟨a1, p1, rfl, i1, hQ, k1⟩
            have QA := Lib.hid hQ
            have I1 := Lib.hid i1
            clear hQ i1 k1
            go_wp2_with fail
            refine (pl_all' QA.out).mono ?_
            rintro e wB ⟨a2, p2, rfl, i2, hQ, k2⟩
            have QB := Lib.hid hQ
            have I2 := Lib.hid i2
            have I1B := Lib.hid (QA.out.stay k2 (by simp) _ _ I1.out)
            clear hQ i2 k2
            go_wp2_with fail
            refine (lenI_any _ _ _ _ _ QB.out.two.one).mono ?_
            rintro e wC ⟨rfl, rfl⟩
            go_wp2_with fail
            refine (roomI_any _ _ _ _ _ QB.out.two.one).mono ?_
            rintro e wC ⟨rfl, rfl⟩
            obtain ⟨A1, s1, z1, j1, _⟩ := QB.out.r.ex
            obtain ⟨A2, s2, z2, j2, _⟩ := QB.out.r'.ex
            have f0 := z1.cell 0
            have f1 := z1.cell 1
            have f2 := z2.cell 1
            simp only [List.getElem?_toArray, List.getElem?_cons_succ, List.getElem?_cons_zero] at f0 f1 f2
            have J1 := Lib.hid j1
            have J2 := Lib.hid j2
            clear z1 z2 j1 j2
            go_wp2_with fail
            refine (ints_same _ _ _ _ _ _ L' _ I1B.out J1.out rfl rfl).mono ?_
            rintro e wC ⟨rfl, m1, rfl⟩
            go_wp2_with fail
            refine (ints_same _ _ _ _ _ _ M' _ (I2.out.drewN _) (J2.out.drewN _) rfl rfl).mono ?_
            rintro e wC ⟨rfl, m2, rfl⟩
            go_wp2_with fail
            go_roundw
            case rel => exact ⟨k + 1, L', M', by omega, by go_num, by first | exact (QB.out.drewN _).drewN _ | exact QB.out.drewN _⟩
            case measure => simp [intOf]; omega
      · have x1' : X k = 1 := by simpa using x1
        rw [x1'] at c0
        clear x1
        by_cases hr : L.length < R
        · go_wp2_with fail
          go_region_held3 (fun w' => w'.cell? ⟨b0, o0 + k * 2 + 1, none⟩ = some (.int .i64 (Y k)))
            (first | exact HL.out _ P7.out.two.bel | exact HL.out _ P6.out.two.bel | exact HL.out _ (below_same P.out.two.bel rfl rfl rfl rfl))
            (first
              | (go_at_call 11; refine Calls.mono (pl_offer_ok (Y k) rY P.out.drew hr) ?_; rintro e w6 ⟨rfl, h6, _⟩; have P6 := Lib.hid h6; clear h6)
              | (go_at_call 12; refine Calls.mono (pl_roffer_ok (Y k) rY P6.out hr) ?_; rintro e w7 ⟨rfl, h7⟩; have P7 := Lib.hid h7; clear h7))
          go_wp2_with fail
          obtain ⟨L', M', q'⟩ : ∃ L' M', Play w (w1.heap.size + 1) w1.heap.size R (w2.heap.size + 1) w2.heap.size R' w3.heap.size w4.heap.size w7 L' M' L' M' := ⟨_, _, P7.out⟩
          have Q := Lib.hid q'
          clear q'
          go_wp2_with fail
          refine (pl_all Q.out).mono ?_
          rintro e wA ⟨a1, p1, rfl, i1, hQ, k1⟩
          have QA := Lib.hid hQ
          have I1 := Lib.hid i1
          clear hQ i1 k1
          go_wp2_with fail
          refine (pl_all' QA.out).mono ?_
          rintro e wB ⟨a2, p2, rfl, i2, hQ, k2⟩
          have QB := Lib.hid hQ
          have I2 := Lib.hid i2
          have I1B := Lib.hid (QA.out.stay k2 (by simp) _ _ I1.out)
          clear hQ i2 k2
          go_wp2_with fail
          refine (lenI_any _ _ _ _ _ QB.out.two.one).mono ?_
          rintro e wC ⟨rfl, rfl⟩
          go_wp2_with fail
          refine (roomI_any _ _ _ _ _ QB.out.two.one).mono ?_
          rintro e wC ⟨rfl, rfl⟩
          obtain ⟨A1, s1, z1, j1, _⟩ := QB.out.r.ex
          obtain ⟨A2, s2, z2, j2, _⟩ := QB.out.r'.ex
          have f0 := z1.cell 0
          have f1 := z1.cell 1
          have f2 := z2.cell 1
          simp only [List.getElem?_toArray, List.getElem?_cons_succ, List.getElem?_cons_zero] at f0 f1 f2
          have J1 := Lib.hid j1
          have J2 := Lib.hid j2
          clear z1 z2 j1 j2
          go_wp2_with fail
          refine (ints_same _ _ _ _ _ _ L' _ I1B.out J1.out rfl rfl).mono ?_
          rintro e wC ⟨rfl, m1, rfl⟩
          go_wp2_with fail
          refine (ints_same _ _ _ _ _ _ M' _ (I2.out.drewN _) (J2.out.drewN _) rfl rfl).mono ?_
          rintro e wC ⟨rfl, m2, rfl⟩
          go_wp2_with fail
          go_roundw
          case rel => exact ⟨k + 1, L', M', by omega, by go_num, by first | exact (QB.out.drewN _).drewN _ | exact QB.out.drewN _⟩
          case measure => simp [intOf]; omega
        · go_wp2_with fail
          go_region_held3 (fun w' => w'.cell? ⟨b0, o0 + k * 2 + 1, none⟩ = some (.int .i64 (Y k)))
            (first | exact HL.out _ P7.out.two.bel | exact HL.out _ (below_same P.out.two.bel rfl rfl rfl rfl))
            (first
              | (go_at_call 11; refine Calls.mono (pl_offer_no (Y k) P.out.drew (by omega)) ?_; rintro e w6 ⟨rfl, rfl⟩)
              | (go_at_call 12; refine Calls.mono (pl_roffer_no (Y k) P.out.drew (by omega)) ?_; rintro e w7 ⟨rfl, h7⟩; have P7 := Lib.hid h7; clear h7))
          go_wp2_with fail
          obtain ⟨L', M', q'⟩ : ∃ L' M', Play w (w1.heap.size + 1) w1.heap.size R (w2.heap.size + 1) w2.heap.size R' w3.heap.size w4.heap.size w7 L' M' L' M' := ⟨_, _, P7.out⟩
          have Q := Lib.hid q'
          clear q'
          go_wp2_with fail
          refine (pl_all Q.out).mono ?_
          rintro e wA ⟨a1, p1, rfl, i1, hQ, k1⟩
          have QA := Lib.hid hQ
          have I1 := Lib.hid i1
          clear hQ i1 k1
          go_wp2_with fail
          refine (pl_all' QA.out).mono ?_
          rintro e wB ⟨a2, p2, rfl, i2, hQ, k2⟩
          have QB := Lib.hid hQ
          have I2 := Lib.hid i2
          have I1B := Lib.hid (QA.out.stay k2 (by simp) _ _ I1.out)
          clear hQ i2 k2
          go_wp2_with fail
          refine (lenI_any _ _ _ _ _ QB.out.two.one).mono ?_
          rintro e wC ⟨rfl, rfl⟩
          go_wp2_with fail
          refine (roomI_any _ _ _ _ _ QB.out.two.one).mono ?_
          rintro e wC ⟨rfl, rfl⟩
          obtain ⟨A1, s1, z1, j1, _⟩ := QB.out.r.ex
          obtain ⟨A2, s2, z2, j2, _⟩ := QB.out.r'.ex
          have f0 := z1.cell 0
          have f1 := z1.cell 1
          have f2 := z2.cell 1
          simp only [List.getElem?_toArray, List.getElem?_cons_succ, List.getElem?_cons_zero] at f0 f1 f2
          have J1 := Lib.hid j1
          have J2 := Lib.hid j2
          clear z1 z2 j1 j2
          go_wp2_with fail
          refine (ints_same _ _ _ _ _ _ L' _ I1B.out J1.out rfl rfl).mono ?_
          rintro e wC ⟨rfl, m1, rfl⟩
          go_wp2_with fail
          refine (ints_same _ _ _ _ _ _ M' _ (I2.out.drewN _) (J2.out.drewN _) rfl rfl).mono ?_
          rintro e wC ⟨rfl, m2, rfl⟩
          go_wp2_with fail
          go_roundw
          case rel => exact ⟨k + 1, L', M', by omega, by go_num, by first | exact (QB.out.drewN _).drewN _ | exact QB.out.drewN _⟩
          case measure => simp [intOf]; omega
    · go_wp2_with fail
      go_ret
      exact ⟨rfl, P.out.two.bel⟩

end Go.Proofs.Ytdgjfpdfjnkmaaa
