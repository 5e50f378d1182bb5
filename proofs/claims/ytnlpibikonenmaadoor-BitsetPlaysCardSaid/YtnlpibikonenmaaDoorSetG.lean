/-
  tronagelaw03.awake: the chapter's examples.
-/
import Derived.Test.YtnlpibikonenmaaDoorSetF
namespace Go.Proofs.YtnlpibikonenmaaDoor
open Go.RowKit
open BitKit
set_option linter.unusedVariables false
set_option linter.unusedSimpArgs false

/-- A list as a function, as 'Of' takes it. -/
def fn (l : List Int) : Nat → Int := fun i => l.getD i 0

theorem of_row (n : Int) (v : Value) (l : List Int) (w : World) (h : Row w v l) :
    Calls Tryd.prog 10 #[.int .i64 n, v] w fun e w' => e = .returned (.pointer (some ⟨w.heap.size, 0, none⟩)) ∧ IsSet w' w.heap.size (held n) (ofs (held n) (fn l) l.length) ∧ w.grownBy w' none := by
  obtain ⟨A, c, rfl, hn⟩ := h.shape
  exact of_any n A l.length c _ w hn

theorem of_ex (n : Int) (v : Value) (l : List Int) (w : World) (h : Row w v l) :
    Calls Tryd.prog 10 #[.int .i64 n, v] w fun e w' => ∃ b, e = .returned (.pointer (some ⟨b, 0, none⟩)) ∧ w.heap.size ≤ b ∧ IsSet w' b (held n) (ofs (held n) (fn l) l.length) ∧ w.grownBy w' none :=
  (of_row n v l w h).mono fun e w' hh => ⟨_, hh.1, Nat.le_refl _, hh.2⟩

theorem mem_small (S : Nat → Bool) : Small (ints (mem S 1024)) := by
  intro x hx
  simp only [ints, List.mem_map] at hx
  obtain ⟨y, hy, rfl⟩ := hx
  have := ((mem_mem S 1024 y).1 hy).1
  omega
/-- All numbers of a set, as ints. -/
def all (S : Nat → Bool) : List Int := ints (mem S 1024)
theorem list_row (b n : Nat) (S : Nat → Bool) (w : World) (hs : IsSet w b n S) (hT : Tab w) (hg0 : 0 < w.heap.size) :
    Calls Tryd.prog 16 #[.pointer (some ⟨b, 0, none⟩)] w fun e w' => (∃ A c, e = .returned (.slice A (all S).length c) ∧ Row w' (.slice A (all S).length c) (all S) ∧ ∀ a, A = some a → w.heap.size ≤ a.block) ∧ w.grownBy w' none := by
  refine (list_any b n S w hs hT hg0).mono ?_
  rintro e w' ⟨v, rfl, ho, hb⟩
  rw [valsOf_ints] at ho
  have hr := row_own ho (mem_small S)
  obtain ⟨A, c, rfl, hn⟩ := hr.shape
  refine ⟨⟨A, c, rfl, hr, fun a ha => ?_⟩, below_grown hb⟩
  subst ha
  rcases own_shape ho with ⟨h, _⟩ | ⟨g, cap, h, _, _, hg, _⟩
  · simp at h
  · simp at h; rw [h.1]; exact hg
theorem all_length (S : Nat → Bool) : (all S).length = cnt S 1024 := by rw [all, ints_length, mem_length]

theorem eq_iff {S T : Nat → Bool} {m : Nat} (hS : ∀ i, S i = true → i < m) (hT : ∀ i, T i = true → i < m) : all S = all T ↔ ∀ i, i < 1024 → S i = T i := by
  unfold all
  rw [ints_inj]
  constructor
  · intro h i hi
    rw [Bool.eq_iff_iff]
    have := congrArg (fun l => i ∈ l) h
    simp only [mem_mem, hi, true_and] at this
    exact Iff.of_eq this
  · intro h; exact mem_congr 1024 h

theorem exS : all (ofs (held 70) (fn [3, 69, 70, 3]) 4) = [3, 69] := by decide +kernel
theorem exS3 : ofs (held 70) (fn [3, 69, 70, 3]) 4 3 = true := by decide +kernel
theorem exS69 : put (held 70) (ofs (held 70) (fn [3, 69, 70, 3]) 4) 3 69 = true := by decide +kernel
theorem exT : uni (held 5) (ofs (held 5) (fn [1]) 1) (ofs (held 9) (fn [1, 7]) 2) = ofs (held 5) (fn [1]) 1 := by
  funext j
  rw [Bool.eq_iff_iff]
  simp only [uni, Bool.or_eq_true, Bool.and_eq_true, decide_eq_true_eq, ofs_iff]
  constructor
  · rintro (h | ⟨h1, h2, i, h3, h4⟩)
    · exact h
    · refine ⟨h1, 0, by omega, ?_⟩
      have : i = 0 ∨ i = 1 := by omega
      have h5 : held 5 = 5 := by decide
      rcases this with rfl | rfl
      · exact h4
      · have : (7 : Int) = (j : Int) := h4
        omega
  · exact .inl
theorem held70 : held 70 = 70 := by decide
theorem small_of (l : List Int) (h : l.all (fun x => decide (-9223372036854775808 ≤ x) && decide (x ≤ 9223372036854775807)) = true) : Small l := by
  intro x hx
  have := List.all_eq_true.1 h x hx
  simpa using this

set_option maxRecDepth 100000 in
set_option maxHeartbeats 8000000 in
theorem awake_any (w : World) (hT : Tab w) (hg0 : 0 < w.heap.size) :
    Calls Tryd.prog 9 #[] w fun e w' => e = .returned (.bool true) ∧ w.grownBy w' none := by
  have HT := Lib.hid hT
  clear hT
  go_enter Tryd.func9, Tryd.ntmps9
  go_wp2_with fail
  refine (of_ex 70 _ [3, 69, 70, 3] _ (row_new w _ (small_of _ (by decide)) (by decide))).mono ?_
  rintro e w1 ⟨b1, rfl, hb1', hs1, hg1⟩
  have G1 := Lib.hid (grown_none (grown_alloc (grown_refl w none) _) hg1)
  have S1 := Lib.hid hs1
  have hb1 : w.heap.size < b1 := by have := hb1'; rw [World.size_alloc] at this; omega
  clear hs1 hg1 hb1'
  go_wp2_with fail
  refine (of_ex 5 _ [1] _ (row_new w1 _ (small_of _ (by decide)) (by decide))).mono ?_
  rintro e w2 ⟨b2, rfl, hb2', hs2, hg2⟩
  have hb2 : b1 < b2 := by have := S1.out.at_.lt; have h' := hb2'; rw [World.size_alloc] at h'
                           omega
  have G2 := Lib.hid (grown_none (grown_alloc G1.out _) hg2)
  have S2 := Lib.hid ((S1.out.alloc _).grown hg2 (by simp))
  have T2 := Lib.hid hs2
  clear hs2 hg2 hb2' S1 G1
  go_wp2_with fail
  refine (of_ex 9 _ [1, 7] _ (row_new w2 _ (small_of _ (by decide)) (by decide))).mono ?_
  rintro e w3 ⟨b3, rfl, hb3', hs3, hg3⟩
  have hb3 : b2 < b3 := by have := T2.out.at_.lt; have h' := hb3'; rw [World.size_alloc] at h'
                           omega
  have G3 := Lib.hid (grown_none (grown_alloc G2.out _) hg3)
  have S3 := Lib.hid ((S2.out.alloc _).grown hg3 (by simp))
  have T3 := Lib.hid ((T2.out.alloc _).grown hg3 (by simp))
  have U3 := Lib.hid hs3
  have HT3 := Lib.hid (HT.out.below (grown_below G3.out) hg0)
  have hz3 : w.heap.size ≤ w3.heap.size := G3.out.size
  clear hs3 hg3 hb3' S2 T2 G2
  go_wp2_with fail
  refine (list_row b1 _ _ w3 S3.out HT3.out (by omega)).mono ?_
  rintro e w4 ⟨⟨A, c, rfl, hr4, hA⟩, hg4⟩
  have HA := Lib.hid hA
  have R4 := Lib.hid hr4
  have G4 := Lib.hid (grown_none G3.out hg4)
  have S4 := Lib.hid (S3.out.grown hg4 (by simp))
  have T4 := Lib.hid (T3.out.grown hg4 (by simp))
  have U4 := Lib.hid (U3.out.grown hg4 (by simp))
  have hlt3 : b1 < w3.heap.size := S3.out.at_.lt
  have hlt3' : b2 < w3.heap.size := T3.out.at_.lt
  clear hr4 hA hg4 S3 T3 U3 G3
  go_wp2_with fail
  refine (add_any b1 _ _ 3 w4 S4.out).mono ?_
  rintro e w5 ⟨rfl, hs5, hg5⟩
  have S5 := Lib.hid hs5
  have T5 := Lib.hid (T4.out.grown hg5 (fun e => by injection e with e; omega))
  have U5 := Lib.hid (U4.out.grown hg5 (fun e => by injection e with e; omega))
  have G5 := Lib.hid (grown_new_trans G4.out hg5 (by omega))
  have R5 := Lib.hid (R4.out.turn hg5 (fun a n c he _ => by injection he with he; have := HA.out a he; omega))
  have e3 : (decide ((0 : Int) ≤ 3 ∧ (3 : Int) < ((held 70 : Nat) : Int)) && !(ofs (held 70) (fn [3, 69, 70, 3]) ([3, 69, 70, 3] : List Int).length) (3 : Int).toNat) = false := by decide +kernel
  rw [e3]
  clear hs5 hg5 S4 T4 U4 G4 R4
  go_wp2_with fail
  refine (drop_any b1 _ _ 69 w5 S5.out).mono ?_
  rintro e w6 ⟨rfl, hs6, hg6⟩
  have T6 := Lib.hid (T5.out.grown hg6 (fun e => by injection e with e; omega))
  have U6 := Lib.hid (U5.out.grown hg6 (fun e => by injection e with e; omega))
  have G6 := Lib.hid (grown_new_trans G5.out hg6 (by omega))
  have R6 := Lib.hid (R5.out.turn hg6 (fun a n c he _ => by injection he with he; have := HA.out a he; omega))
  have e69 : (decide ((0 : Int) ≤ 69 ∧ (69 : Int) < ((held 70 : Nat) : Int)) && (put (held 70) (ofs (held 70) (fn [3, 69, 70, 3]) ([3, 69, 70, 3] : List Int).length) 3) (69 : Int).toNat) = true := by decide +kernel
  rw [e69]
  clear hs6 hg6 S5 T5 U5 G5 R5
  go_wp2_with fail
  refine (union_any b2 _ _ b3 _ _ w6 T6.out U6.out).mono ?_
  rintro e w7 ⟨⟨r, rfl, hr7⟩, hs7, hg7⟩
  have hr : r = false := by
    cases r
    · rfl
    · exact absurd exT (hr7.1 rfl)
  subst hr
  have G7 := Lib.hid (grown_new_trans G6.out hg7 (by omega))
  have R7 := Lib.hid (R6.out.turn hg7 (fun a n c he _ => by injection he with he; have := HA.out a he; omega))
  clear hs7 hg7 hr7 T6 U6 G6 R6
  go_wp2_with fail
  refine (ints_row _ _ _ [3, 69] _ (R7.out.below ((Below.refl _ _).alloc (Nat.le_refl _) _)) (row_new w7 _ (small_of _ (by decide)) (by decide))).mono ?_
  rintro e w8 ⟨⟨r, rfl, hr8⟩, k, rfl⟩
  have hr : r = true := hr8.2 exS
  subst hr
  go_wp2_with fail
  go_ret
  exact ⟨rfl, grown_drewN (grown_alloc G7.out _) _⟩

end Go.Proofs.YtnlpibikonenmaaDoor
