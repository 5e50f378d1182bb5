/-
  The walk over tronagelaw03.BitsetMeets.
-/
import Derived.Test.YtnlpibikonenmaaDoorBsUnion
namespace Go.Proofs.YtnlpibikonenmaaDoor
open Go.RowKit
open BitKit
set_option linter.unusedVariables false
set_option linter.unusedSimpArgs false

def MeetTo (S T : Nat → Bool) (k : Nat) : Prop := ∃ i, i < k ∧ S i = true ∧ T i = true
def AgreeTo (S T : Nat → Bool) (k : Nat) : Prop := ∀ i, i < k → S i = T i
/-- r says whether p is so. -/
def Reckons (r : Bool) (p : Prop) : Prop := r = true ↔ p
theorem meetTo_succ (S T : Nat → Bool) (k : Nat) (r : Bool) (h : r = true ↔ MeetTo S T k) : (r || (S k && T k)) = true ↔ MeetTo S T (k + 1) := by
  rw [Bool.or_eq_true, Bool.and_eq_true, h]
  constructor
  · rintro (⟨i, h1, h2⟩ | ⟨h1, h2⟩)
    · exact ⟨i, by omega, h2⟩
    · exact ⟨k, by omega, h1, h2⟩
  · rintro ⟨i, h1, h2, h3⟩
    by_cases he : i = k
    · subst he; exact .inr ⟨h2, h3⟩
    · exact .inl ⟨i, by omega, h2, h3⟩
theorem agreeTo_succ (S T : Nat → Bool) (k : Nat) (q : Bool) (h : q = true ↔ AgreeTo S T k) : (q && (S k == T k)) = true ↔ AgreeTo S T (k + 1) := by
  rw [Bool.and_eq_true, beq_iff_eq, h]
  constructor
  · rintro ⟨h1, h2⟩ i hi
    by_cases he : i = k
    · subst he; exact h2
    · exact h1 i (by omega)
  · intro h1
    exact ⟨fun i hi => h1 i (by omega), h1 k (by omega)⟩
theorem meet_symm (S T : Nat → Bool) : Meet S T ↔ Meet T S := ⟨fun ⟨i, a, b⟩ => ⟨i, b, a⟩, fun ⟨i, a, b⟩ => ⟨i, b, a⟩⟩
theorem meet_all {S T : Nat → Bool} {n m : Nat} (hS : ∀ i, S i = true → i < n) (hn : n ≤ m) : MeetTo S T m ↔ Meet S T :=
  ⟨fun ⟨i, _, h⟩ => ⟨i, h⟩, fun ⟨i, h1, h2⟩ => ⟨i, by have := hS i h1; omega, h1, h2⟩⟩
theorem agree_all {S T : Nat → Bool} {n n' m : Nat} (hS : ∀ i, S i = true → i < n) (hT : ∀ i, T i = true → i < n') (hn : n ≤ m) (hn' : n' ≤ m) : AgreeTo S T m ↔ S = T := by
  constructor
  · intro h
    funext i
    by_cases hi : i < m
    · exact h i hi
    · have h1 : S i = false := by
        cases hs : S i
        · rfl
        · have := hS i hs; omega
      have h2 : T i = false := by
        cases hs : T i
        · rfl
        · have := hT i hs; omega
      rw [h1, h2]
  · rintro rfl i _; rfl
theorem has_nat (b n : Nat) (S : Nat → Bool) (k : Nat) (w : World) (hs : IsSet w b n S) :
    Calls Tryd.prog 25 #[.pointer (some ⟨b, 0, none⟩), .int .i64 (k : Int)] w fun e w' => e = .returned (.bool (S k)) ∧ ∃ d, w' = w.drewN d :=
  (has_any b n S k w hs).mono fun e w' h => ⟨by rw [h.1]; simp, h.2⟩

/-- The law's loop and what follows, behind the two sets. -/
def Ends (w : World) (e : Ending) (w' : World) : Prop := e = .returned (.bool true) ∧ Below w.heap.size w w'

set_option maxRecDepth 100000 in
set_option maxHeartbeats 16000000 in
theorem meets_law (n : Int) (bn : -9223372036854775808 ≤ n ∧ n ≤ 9223372036854775807) (n' : Int) (bn' : -9223372036854775808 ≤ n' ∧ n' ≤ 9223372036854775807) (A1 : Option Addr) (l1 c1 : Nat) (X1 : Nat → Int) (A2 : Option Addr) (l2 c2 : Nat) (X2 : Nat → Int) (w : World) (O1 : Nums w w.heap.size A1 l1 X1) (O2 : Nums w w.heap.size A2 l2 X2) (hT : Tab w) (hg0 : 0 < w.heap.size) :
    Calls Tryd.prog 8 #[.int .i64 n, .int .i64 n', .slice A1 l1 c1, .slice A2 l2 c2] w fun e w' => e = .returned (.bool true) ∧ Below w.heap.size w w' := by
  have HO1 := Lib.hid O1
  have HO2 := Lib.hid O2
  have HT := Lib.hid hT
  clear O1 O2 hT
  go_enter Tryd.func8, Tryd.ntmps8
  go_wp2_with fail
  refine (awake_any w HT.out hg0).mono ?_
  rintro e w1 ⟨rfl, hg1⟩
  have G1 := Lib.hid hg1
  clear hg1
  by_cases h1 : (100 : Int) < (l1 : Int)
  · go_wp2_with fail
    go_ret
    exact ⟨rfl, grown_below G1.out⟩
  · by_cases h2 : (100 : Int) < (l2 : Int)
    · go_wp2_with fail
      go_ret
      exact ⟨rfl, grown_below G1.out⟩
    · go_wp2_with fail
      refine (of_new n A1 l1 c1 X1 w1 ((HO1.out.below (grown_below G1.out)).wide G1.out.size)).mono ?_
      rintro e w2 ⟨b1, rfl, hb1, hs2, hg2⟩
      have G2 := Lib.hid (grown_none G1.out hg2)
      have S2 := Lib.hid hs2
      clear hs2 hg2
      go_wp2_with fail
      refine (of_new n' A2 l2 c2 X2 w2 ((HO2.out.below (grown_below G2.out)).wide G2.out.size)).mono ?_
      rintro e w3 ⟨b2, rfl, hb2, hs3, hg3⟩
      have hne : b1 < b2 := by have := S2.out.at_.lt; omega
      have G3 := Lib.hid (grown_none G2.out hg3)
      have S3 := Lib.hid (S2.out.grown hg3 (by simp))
      have T3 := Lib.hid hs3
      clear hs3 hg3 S2 G2
      generalize ofs (held n) X1 l1 = S at S3
      generalize ofs (held n') X2 l2 = T at T3
      have hle1 := S3.out.le
      have hle2 := T3.out.le
      obtain ⟨n1, hn1⟩ : ∃ m, m = held n := ⟨_, rfl⟩
      obtain ⟨n2, hn2⟩ : ∃ m, m = held n' := ⟨_, rfl⟩
      rw [← hn1] at S3 hle1
      rw [← hn2] at T3 hle2
      clear hn1 hn2
      obtain ⟨m, hm⟩ : ∃ m, m = max n1 n2 := ⟨_, rfl⟩
      have hdec : RowKit.Hid (((n1 : Int) < (n2 : Int) ∧ m = n2) ∨ ((n2 : Int) ≤ (n1 : Int) ∧ m = n1)) := Lib.hid (by omega)
      have hm1 : n1 ≤ m := by omega
      have hm2 : n2 ≤ m := by omega
      clear hm
      go_wp2_with fail
      go_loopw [12, 13, 14] (fun b s i wr => ∃ k : Nat, k ≤ m ∧ i = .int .i64 (k : Int) ∧ (∃ r, b = .bool r ∧ Reckons r (MeetTo S T k)) ∧ (∃ q, s = .bool q ∧ Reckons q (AgreeTo S T k)) ∧ ∃ d, wr = w3.drewN d) (fun _ _ i _ => m - (intOf i).toNat)
      case atStart => exact ⟨0, by omega, rfl, ⟨false, rfl, ⟨fun h => (by cases h), fun ⟨i, h, _⟩ => by omega⟩⟩, ⟨true, rfl, ⟨fun _ i h => by omega, fun _ => rfl⟩⟩, 0, rfl⟩
      case round =>
        obtain ⟨k, hk, rfl, ⟨r, rfl, hr⟩, ⟨q, rfl, hq⟩, d, rfl⟩ := hrel
        have HR := Lib.hid hr
        have HQ := Lib.hid hq
        clear hr hq
        go_wp2_with fail
        refine (width_any b1 _ _ _ (S3.out.drewN d)).mono ?_
        rintro e w4 ⟨rfl, rfl⟩
        go_wp2_with fail
        refine (width_any b2 _ _ _ (T3.out.drewN d)).mono ?_
        rintro e w5 ⟨rfl, rfl⟩
        by_cases hlt : k < m
        · rcases hdec.out with ⟨hc, hmm⟩ | ⟨hc, hmm⟩
          · have hltI : (k : Int) < (n2 : Int) := by omega
            clear hmm
            go_wp2_with fail
            refine (has_nat b1 _ _ k _ (S3.out.drewN _)).mono ?_
            obtain ⟨x, hx'⟩ : ∃ x, x = S k := ⟨_, rfl⟩
            rw [← hx']
            have HX := Lib.hid hx'
            clear hx'
            rintro e w6 ⟨rfl, d6, rfl⟩
            go_wp2_with fail
            refine (has_nat b2 _ _ k _ (T3.out.drewN _)).mono ?_
            obtain ⟨y, hy'⟩ : ∃ y, y = T k := ⟨_, rfl⟩
            rw [← hy']
            have HY := Lib.hid hy'
            clear hy'
            rintro e w7 ⟨rfl, d7, rfl⟩
            have h1' : Reckons (r || (x && y)) (MeetTo S T (k + 1)) := by rw [HX.out, HY.out]; exact meetTo_succ S T k r HR.out
            have h2' : Reckons (q && (x == y)) (AgreeTo S T (k + 1)) := by rw [HX.out, HY.out]; exact agreeTo_succ S T k q HQ.out
            have H1 := Lib.hid h1'
            have H2 := Lib.hid h2'
            clear h1' h2' HX HY HR HQ
            cases r <;> cases q <;> cases x
            all_goals
              go_wp2_with fail
              go_roundw
              case rel =>
                have h1 := H1.out
                have h2 := H2.out
                exact ⟨k + 1, by omega, by go_num, ⟨_, rfl, h1⟩, ⟨_, rfl, by simpa using h2⟩, _, rfl⟩
              case measure => simp [intOf]; omega
          · have hltI : (k : Int) < (n1 : Int) := by omega
            clear hmm
            go_wp2_with fail
            refine (has_nat b1 _ _ k _ (S3.out.drewN _)).mono ?_
            obtain ⟨x, hx'⟩ : ∃ x, x = S k := ⟨_, rfl⟩
            rw [← hx']
            have HX := Lib.hid hx'
            clear hx'
            rintro e w6 ⟨rfl, d6, rfl⟩
            go_wp2_with fail
            refine (has_nat b2 _ _ k _ (T3.out.drewN _)).mono ?_
            obtain ⟨y, hy'⟩ : ∃ y, y = T k := ⟨_, rfl⟩
            rw [← hy']
            have HY := Lib.hid hy'
            clear hy'
            rintro e w7 ⟨rfl, d7, rfl⟩
            have h1' : Reckons (r || (x && y)) (MeetTo S T (k + 1)) := by rw [HX.out, HY.out]; exact meetTo_succ S T k r HR.out
            have h2' : Reckons (q && (x == y)) (AgreeTo S T (k + 1)) := by rw [HX.out, HY.out]; exact agreeTo_succ S T k q HQ.out
            have H1 := Lib.hid h1'
            have H2 := Lib.hid h2'
            clear h1' h2' HX HY HR HQ
            cases r <;> cases q <;> cases x
            all_goals
              go_wp2_with fail
              go_roundw
              case rel =>
                have h1 := H1.out
                have h2 := H2.out
                exact ⟨k + 1, by omega, by go_num, ⟨_, rfl, h1⟩, ⟨_, rfl, by simpa using h2⟩, _, rfl⟩
              case measure => simp [intOf]; omega
        · have hkm : k = m := by omega
          subst hkm
          rcases hdec.out with ⟨hc, hmm⟩ | ⟨hc, hmm⟩
          · have hltI : ¬ (k : Int) < (n2 : Int) := by omega
            clear hmm
            go_wp2_with fail
            refine (meets_any b1 _ _ b2 _ _ _ (S3.out.drewN _) (T3.out.drewN _)).mono ?_
            rintro e w6 ⟨⟨r1, rfl, hr1⟩, hg6⟩
            have hr1' : r1 = r := by rw [Bool.eq_iff_iff, hr1]; exact ((meet_all S3.out.fit hm1).symm.trans HR.out.symm)
            subst hr1'
            have S6 := Lib.hid ((S3.out.drewN _).grown hg6 (by simp))
            have T6 := Lib.hid ((T3.out.drewN _).grown hg6 (by simp))
            have G6 := Lib.hid (grown_none (grown_drewN G3.out _) hg6)
            clear hr1 hg6
            go_wp2_with fail
            refine (meets_any b2 _ _ b1 _ _ _ T6.out S6.out).mono ?_
            rintro e w7 ⟨⟨r2, rfl, hr2⟩, hg7⟩
            have hr2' : r2 = r1 := by rw [Bool.eq_iff_iff, hr2, meet_symm]; exact ((meet_all S3.out.fit hm1).symm.trans HR.out.symm)
            subst hr2'
            have S7 := Lib.hid (S6.out.grown hg7 (by simp))
            have T7 := Lib.hid (T6.out.grown hg7 (by simp))
            have G7 := Lib.hid (grown_none G6.out hg7)
            clear hr2 hg7
            go_wp2_with fail
            refine (same_any b1 _ _ b2 _ _ _ S7.out T7.out).mono ?_
            rintro e w8 ⟨⟨q1, rfl, hq1⟩, hg8⟩
            have hq1' : q1 = q := by rw [Bool.eq_iff_iff, hq1]; exact ((agree_all S3.out.fit T3.out.fit hm1 hm2).symm.trans HQ.out.symm)
            subst hq1'
            have G8 := Lib.hid (grown_none G7.out hg8)
            clear hq1 hg8
            go_wp2_with fail
            go_ret
            exact ⟨rfl, grown_below G8.out⟩
          · have hltI : ¬ (k : Int) < (n1 : Int) := by omega
            clear hmm
            go_wp2_with fail
            refine (meets_any b1 _ _ b2 _ _ _ (S3.out.drewN _) (T3.out.drewN _)).mono ?_
            rintro e w6 ⟨⟨r1, rfl, hr1⟩, hg6⟩
            have hr1' : r1 = r := by rw [Bool.eq_iff_iff, hr1]; exact ((meet_all S3.out.fit hm1).symm.trans HR.out.symm)
            subst hr1'
            have S6 := Lib.hid ((S3.out.drewN _).grown hg6 (by simp))
            have T6 := Lib.hid ((T3.out.drewN _).grown hg6 (by simp))
            have G6 := Lib.hid (grown_none (grown_drewN G3.out _) hg6)
            clear hr1 hg6
            go_wp2_with fail
            refine (meets_any b2 _ _ b1 _ _ _ T6.out S6.out).mono ?_
            rintro e w7 ⟨⟨r2, rfl, hr2⟩, hg7⟩
            have hr2' : r2 = r1 := by rw [Bool.eq_iff_iff, hr2, meet_symm]; exact ((meet_all S3.out.fit hm1).symm.trans HR.out.symm)
            subst hr2'
            have S7 := Lib.hid (S6.out.grown hg7 (by simp))
            have T7 := Lib.hid (T6.out.grown hg7 (by simp))
            have G7 := Lib.hid (grown_none G6.out hg7)
            clear hr2 hg7
            go_wp2_with fail
            refine (same_any b1 _ _ b2 _ _ _ S7.out T7.out).mono ?_
            rintro e w8 ⟨⟨q1, rfl, hq1⟩, hg8⟩
            have hq1' : q1 = q := by rw [Bool.eq_iff_iff, hq1]; exact ((agree_all S3.out.fit T3.out.fit hm1 hm2).symm.trans HQ.out.symm)
            subst hq1'
            have G8 := Lib.hid (grown_none G7.out hg8)
            clear hq1 hg8
            go_wp2_with fail
            go_ret
            exact ⟨rfl, grown_below G8.out⟩

end Go.Proofs.YtnlpibikonenmaaDoor
