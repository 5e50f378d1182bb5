/-
  The walk of LexerLexes.
-/
import Derived.Test.YtcchljghlgnkkaaDoorLyF
import Derived.Test.YtcchljghlgnkkaaDoorLyG
import Derived.Test.YtcchljghlgnkkaaDoorLyE
namespace Go.Proofs.YtcchljghlgnkkaaDoor
open Go.RowKit
open Lx
set_option linter.unusedVariables false
set_option linter.unusedSimpArgs false

namespace Lx
theorem run_marks : ∀ (f : Nat) (l : List UInt8) (i : Nat) (acc : List (Nat × List UInt8 × Nat)) (t : List UInt8), ((run f l i acc).marks t).length ≤ acc.length + f
  | 0, l, i, acc, t => by unfold run; simp [Out.marks]
  | f + 1, l, i, acc, t => by
    unfold run
    split
    · simp [Out.marks]
    · split
      · have := run_marks f (l.drop ‹_›) (i + ‹_›) acc t; omega
      · rename_i k x n h
        have := run_marks f (l.drop n) (i + n) (acc ++ [(k, x, i)]) t
        simp at this; omega
      · simp [Out.marks]
theorem lex_marks (l : List UInt8) : ((lex l).marks l).length ≤ 4001 := by
  unfold lex
  split
  · simp [Out.marks]
  · have := run_marks (l.length + 1) l 0 [] l
    simp at this; omega
end Lx

theorem rlex_is (s : ByteArray) (MS : List Mk) (D : Nat × Nat × Nat) (w : World) (hm : s.size ≤ 9223372036854775807) (h1 : (lex (bl s)).marks (bl s) = MS) (h2 : (lex (bl s)).diag (bl s) = D) :
    Calls Tryd.prog 12 #[.string s] w (LexIs MS D w) := by
  subst h1 h2
  by_cases h : 4000 < s.size
  · exact (rlex_far s w h hm).mono fun e w' ⟨h3, h4⟩ => ⟨h3, h4⟩
  · exact (rlex_near s w (by omega) (fun i hi w => rclass_any s i w (by omega) hi)).mono fun e w' ⟨h3, h4⟩ => ⟨h3, h4⟩

set_option maxHeartbeats 2000000 in
theorem lexes_law (s : ByteArray) (hs : s.size ≤ 9223372036854775807) (W : World) (hT : Tab W) (h0 : 0 < W.heap.size) :
    Calls Tryd.prog 3 #[.string s] W fun e w' => e = .returned (.bool true) ∧ Below W.heap.size W w' := by
  have HT := Lib.hid hT
  clear hT
  go_enter Tryd.func3, Tryd.ntmps3
  go_wp2_with fail
  refine (awake_any _ HT.out h0).mono ?_
  rintro e w1 ⟨rfl, hb1⟩
  have HB1 := Lib.hid hb1
  have HT1 := Lib.hid (HT.out.below hb1 h0)
  have hs1 := hb1.size
  clear hb1
  obtain ⟨MS, hMS⟩ : ∃ MS, (lex (bl s)).marks (bl s) = MS := ⟨_, rfl⟩
  obtain ⟨⟨d1, d2, d3⟩, hDG⟩ : ∃ D, (lex (bl s)).diag (bl s) = D := ⟨_, rfl⟩
  have hlen : MS.length ≤ 4001 := by rw [← hMS]; exact lex_marks _
  have HMS := Lib.hid hMS
  have HDG := Lib.hid hDG
  clear hMS hDG
  by_cases q1 : 600 < s.size
  · have q1' : (600 : Int) < (s.size : Int) := by omega
    by_cases q2 : s.size ≤ 4000
    · have q2' : (s.size : Int) ≤ 4000 := by omega
      go_wp2_with fail
      go_ret
      exact ⟨rfl, HB1.out⟩
    · have q2' : (4000 : Int) < (s.size : Int) := by omega
      go_wp2_with fail
      refine (lex_is s MS (d1, d2, d3) _ hs HT1.out (by omega) HMS.out HDG.out).mono ?_
      rintro e w2 ⟨⟨A, ca, rfl, hm2⟩, hb2⟩
      simp only [diagV]
      have hs2 := hb2.size
      have HM2 := Lib.hid (hm2.below ((Below.refl _ _).alloc (Nat.le_refl _) (.cells #[.int .i64 (d1 : Int), .int .i64 (d2 : Int), .int .i64 (d3 : Int)] 28)))
      have hB2 := HB1.out.trans (hb2.mono hs1)
      have HB2 := Lib.hid (hB2.alloc hB2.size (.cells #[.int .i64 (d1 : Int), .int .i64 (d2 : Int), .int .i64 (d3 : Int)] 28))
      have HD2 := Lib.hid (At.new w2 28 #[.int .i64 (d1 : Int), .int .i64 (d2 : Int), .int .i64 (d3 : Int)])
      clear hm2 hb2 hB2
      go_wp2_with fail
      generalize (w2.alloc (.cells #[.int .i64 (d1 : Int), .int .i64 (d2 : Int), .int .i64 (d3 : Int)] 28)) = W2 at HM2 HB2 HD2 ⊢
      generalize w2.heap.size = g2 at HD2 ⊢
      have hl2 := HD2.out.lt
      have hs3 := HB2.out.size
      refine (rlex_is s MS (d1, d2, d3) _ hs HMS.out HDG.out).mono ?_
      rintro e w3 ⟨⟨B, cb, rfl, hm3⟩, hb3⟩
      simp only [diagV]
      have hs4 := hb3.size
      have HM3 := Lib.hid (hm3.below ((Below.refl _ _).alloc (Nat.le_refl _) (.cells #[.int .i64 (d1 : Int), .int .i64 (d2 : Int), .int .i64 (d3 : Int)] 28)))
      have hk3 := hb3.alloc hs4 (.cells #[.int .i64 (d1 : Int), .int .i64 (d2 : Int), .int .i64 (d3 : Int)] 28)
      have HMA3 := Lib.hid (HM2.out.below hk3)
      have HDA3 := Lib.hid (HD2.out.below hk3 hl2)
      have HB3 := Lib.hid (HB2.out.trans (hk3.mono hs3))
      have HD3 := Lib.hid (At.new w3 28 #[.int .i64 (d1 : Int), .int .i64 (d2 : Int), .int .i64 (d3 : Int)])
      clear hm3 hb3 hk3
      have a0 := HDA3.out.cell 0
      have a1 := HDA3.out.cell 1
      have a2 := HDA3.out.cell 2
      have b0 := HD3.out.cell 0
      have b1 := HD3.out.cell 1
      have b2 := HD3.out.cell 2
      simp only [List.getElem?_toArray, List.getElem?_cons_zero, List.getElem?_cons_succ] at a0 a1 a2 b0 b1 b2
      go_wp2_with fail
      refine (marks_any A B MS ca cb _ HMA3.out HM3.out (by omega)).mono ?_
      rintro e w4 ⟨rfl, n, rfl⟩
      go_wp2_with fail
      go_ret
      exact ⟨rfl, below_drewN HB3.out n⟩
  · have q1' : (s.size : Int) ≤ 600 := by omega
    go_wp2_with fail
    refine (lex_is s MS (d1, d2, d3) _ hs HT1.out (by omega) HMS.out HDG.out).mono ?_
    rintro e w2 ⟨⟨A, ca, rfl, hm2⟩, hb2⟩
    simp only [diagV]
    have hs2 := hb2.size
    have HM2 := Lib.hid (hm2.below ((Below.refl _ _).alloc (Nat.le_refl _) (.cells #[.int .i64 (d1 : Int), .int .i64 (d2 : Int), .int .i64 (d3 : Int)] 28)))
    have hB2 := HB1.out.trans (hb2.mono hs1)
    have HB2 := Lib.hid (hB2.alloc hB2.size (.cells #[.int .i64 (d1 : Int), .int .i64 (d2 : Int), .int .i64 (d3 : Int)] 28))
    have HD2 := Lib.hid (At.new w2 28 #[.int .i64 (d1 : Int), .int .i64 (d2 : Int), .int .i64 (d3 : Int)])
    clear hm2 hb2 hB2
    go_wp2_with fail
    generalize (w2.alloc (.cells #[.int .i64 (d1 : Int), .int .i64 (d2 : Int), .int .i64 (d3 : Int)] 28)) = W2 at HM2 HB2 HD2 ⊢
    generalize w2.heap.size = g2 at HD2 ⊢
    have hl2 := HD2.out.lt
    have hs3 := HB2.out.size
    refine (rlex_is s MS (d1, d2, d3) _ hs HMS.out HDG.out).mono ?_
    rintro e w3 ⟨⟨B, cb, rfl, hm3⟩, hb3⟩
    simp only [diagV]
    have hs4 := hb3.size
    have HM3 := Lib.hid (hm3.below ((Below.refl _ _).alloc (Nat.le_refl _) (.cells #[.int .i64 (d1 : Int), .int .i64 (d2 : Int), .int .i64 (d3 : Int)] 28)))
    have hk3 := hb3.alloc hs4 (.cells #[.int .i64 (d1 : Int), .int .i64 (d2 : Int), .int .i64 (d3 : Int)] 28)
    have HMA3 := Lib.hid (HM2.out.below hk3)
    have HDA3 := Lib.hid (HD2.out.below hk3 hl2)
    have HB3 := Lib.hid (HB2.out.trans (hk3.mono hs3))
    have HD3 := Lib.hid (At.new w3 28 #[.int .i64 (d1 : Int), .int .i64 (d2 : Int), .int .i64 (d3 : Int)])
    clear hm3 hb3 hk3
    have a0 := HDA3.out.cell 0
    have a1 := HDA3.out.cell 1
    have a2 := HDA3.out.cell 2
    have b0 := HD3.out.cell 0
    have b1 := HD3.out.cell 1
    have b2 := HD3.out.cell 2
    simp only [List.getElem?_toArray, List.getElem?_cons_zero, List.getElem?_cons_succ] at a0 a1 a2 b0 b1 b2
    go_wp2_with fail
    refine (marks_any A B MS ca cb _ HMA3.out HM3.out (by omega)).mono ?_
    rintro e w4 ⟨rfl, n, rfl⟩
    go_wp2_with fail
    go_ret
    exact ⟨rfl, below_drewN HB3.out n⟩

end Go.Proofs.YtcchljghlgnkkaaDoor
