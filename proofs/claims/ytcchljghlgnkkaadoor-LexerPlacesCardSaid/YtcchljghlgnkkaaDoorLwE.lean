/-
  The walk of LexerPlaces.
-/
import Derived.Test.YtcchljghlgnkkaaDoorLwB
namespace Go.Proofs.YtcchljghlgnkkaaDoor
open Go.RowKit
open Lx
set_option linter.unusedVariables false
set_option linter.unusedSimpArgs false

theorem words_two (w : World) (o : Obj) : WordsAt ((w.alloc o).alloc (.cells wordsCells 9)).drew (w.heap.size + 1) := words_new2 w o

set_option maxHeartbeats 2000000 in
set_option maxRecDepth 100000 in
theorem places_law (s : ByteArray) (hs : s.size ≤ 9223372036854775807) (i : Int) (hi : -9223372036854775808 ≤ i ∧ i ≤ 9223372036854775807) (W : World) (hT : Tab W) (h0 : 0 < W.heap.size) :
    Calls Tryd.prog 4 #[.string s, .int .i64 i] W fun e w' => e = .returned (.bool true) ∧ Below W.heap.size W w' := by
  have HT := Lib.hid hT
  clear hT
  go_enter Tryd.func4, Tryd.ntmps4
  go_wp2_with fail
  refine (awake_any _ HT.out h0).mono ?_
  rintro e w1 ⟨rfl, hb1⟩
  have HB1 := Lib.hid hb1
  have hs1 := hb1.size
  clear hb1
  by_cases hrange : s.size ≤ 600
  · have q1' : (s.size : Int) ≤ 600 := by omega
    obtain ⟨P, hP⟩ : ∃ P, pos (bl s) (min (max i 0).toNat s.size) = P := ⟨_, rfl⟩
    have HP := Lib.hid hP
    clear hP
    go_wp2_with fail
    refine (At_any s i _ hs (by omega)).mono ?_
    rw [HP.out]
    rintro e w2 ⟨rfl, hb2⟩
    have HB2 := Lib.hid (HB1.out.trans (hb2.mono hs1))
    have hs2 := HB2.out.size
    clear hb2
    go_wp2_with fail
    refine (name_any s _ hs).mono ?_
    rintro e w3 ⟨rfl, rfl⟩
    have e0 := (At.new w2 26 #[.int .i64 (P.1 : Int), .int .i64 (P.2 : Int)]).cell 0
    have e1 := (At.new w2 26 #[.int .i64 (P.1 : Int), .int .i64 (P.2 : Int)]).cell 1
    have HG := Lib.hid (At.new w2 26 #[.int .i64 (P.1 : Int), .int .i64 (P.2 : Int)])
    have HB3 := Lib.hid (HB2.out.alloc hs2 (.cells #[.int .i64 (P.1 : Int), .int .i64 (P.2 : Int)] 26))
    have hg3 := HG.out.lt
    have hs3 := HB3.out.size
    simp only [List.getElem?_toArray, List.getElem?_cons_zero, List.getElem?_cons_succ] at e0 e1
    generalize w2.alloc (.cells #[.int .i64 (P.1 : Int), .int .i64 (P.2 : Int)] 26) = W3 at HG HB3 e0 e1 hg3 hs3 ⊢
    generalize w2.heap.size = gp at HG e0 e1 hg3 ⊢
    go_wp2_with fail
    go_region_held3 (fun w' => w'.cell? ⟨gp, 0, none⟩ = some (.int .i64 (P.1 : Int)) ∧ w'.cell? ⟨gp, 1, none⟩ = some (.int .i64 (P.2 : Int))) (go_keep) (first
      | (go_at_call 16; refine Calls.mono (rAt_any s i _ hi (by omega)) ?_; rw [HP.out]; rintro e w4 ⟨rfl, hb4⟩
         have hk4 : Below W3.heap.size W3 w4 := (below_undrew hb4).mono (by simp)
         have hg4 := HG.out.below hk4 hg3
         have f0 := hg4.cell 0
         have f1 := hg4.cell 1
         have hl4 := hg4.lt
         simp only [List.getElem?_toArray, List.getElem?_cons_zero, List.getElem?_cons_succ] at f0 f1)
      | (go_at_call 17; refine Calls.mono (rName_any s _ hs) ?_; rintro e w' ⟨rfl, rfl⟩)
      | (go_at_call 19; refine Calls.mono (words_any _) ?_; rintro e w' ⟨rfl, rfl⟩)
      | (go_at_call 20; refine Calls.mono (words2_any _) ?_; rintro e w' ⟨rfl, rfl⟩)
      | (go_at_call 18; refine Calls.mono (texts_any _ _ _ (by first | exact ((At.new _ _ _).alloc _).drew | exact words_two _ _ | exact ((At.new _ _ _).alloc _)) (by first | exact ((At.new _ _ _).alloc _).drew | exact words_two _ _ | exact ((At.new _ _ _).alloc _))) ?_; rintro e w' ⟨rfl, nt, rfl⟩))
    all_goals
      go_wp2_with fail
      go_ret
      have hB4 := HB3.out.trans (hk4.mono hs3)
      refine ⟨by first | rfl | simp, ?_⟩
      first
        | exact below_drewN ((hB4.alloc hB4.size _).alloc (by have := hB4.size; simp; omega) _) _
        | exact below_drew (below_drewN ((hB4.alloc hB4.size _).alloc (by have := hB4.size; simp; omega) _) _)
        | exact below_drewN (below_drew ((hB4.alloc hB4.size _).alloc (by have := hB4.size; simp; omega) _)) _
  · have hn1 : (600 : Int) < (s.size : Int) := by omega
    go_wp2_with fail
    go_ret
    exact ⟨rfl, HB1.out⟩

end Go.Proofs.YtcchljghlgnkkaaDoor
