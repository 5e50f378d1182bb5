/-
  tronagelaw06's awake: the chapter's examples.
-/
import Derived.Test.YtgmihbfikggkjaaDoorRdL
namespace Go.Proofs.YtgmihbfikggkjaaDoor
open Go.RowKit
open Lx
set_option linter.unusedVariables false
set_option linter.unusedSimpArgs false
set_option maxRecDepth 100000

/-- Read told this grammar, and this of what is wrong. -/
structure ReadIs (G : Rd.G) (D : Nat × Nat × Nat) (w : World) (e : Ending) (w' : World) : Prop where
  ex : ∃ gv, e = .returned (.tuple #[gv, diagV D]) ∧ GramIs w' gv G
  below : Below w.heap.size w w'
theorem read_is (s : ByteArray) (G : Rd.G) (D : Nat × Nat × Nat) (w : World) (hm : s.size ≤ 9223372036854775807) (hT : Tab w) (h0 : 0 < w.heap.size) (h1 : Rd.readG (bl s) = G) (h2 : Rd.readD (bl s) = D) :
    Calls Tryd.prog 8 #[.string s] w (ReadIs G D w) := by
  subst h1 h2
  exact (read_any s w hm hT h0).mono fun e w' h => ⟨h.ex, h.below⟩

theorem ra1 : Rd.readG [37, 116, 111, 107, 101, 110, 32, 78, 32, 91, 48, 45, 57, 93, 43, 32, 37, 37, 32, 69, 32, 58, 32, 69, 32, 78, 32, 123, 49, 125, 32, 124, 32, 59] = ⟨[⟨[78], ⟨[], [48, 49, 50, 51, 52, 53, 54, 55, 56, 57], true⟩⟩], [], [], [69], [⟨[69], [[69], [78]], [], [49]⟩, ⟨[69], [], [], []⟩]⟩ := by decide +kernel
theorem ra1d : Rd.readD [37, 116, 111, 107, 101, 110, 32, 78, 32, 91, 48, 45, 57, 93, 43, 32, 37, 37, 32, 69, 32, 58, 32, 69, 32, 78, 32, 123, 49, 125, 32, 124, 32, 59] = (0, 0, 0) := by decide +kernel
theorem ra2 : Rd.readG [37, 37, 32, 69, 32, 58, 32, 59, 32, 70] = Rd.zero := by decide +kernel
theorem ra2d : Rd.readD [37, 37, 32, 69, 32, 58, 32, 59, 32, 70] = (14, 1, 11) := by decide +kernel
theorem ra3 : Rd.readG [37, 108, 101, 102, 116, 32, 65, 32, 65, 32, 37, 37] = Rd.zero := by decide +kernel
theorem ra3d : Rd.readD [37, 108, 101, 102, 116, 32, 65, 32, 65, 32, 37, 37] = (15, 1, 9) := by decide +kernel

/-- The two blocks that hold what Read told. -/
theorem two_new (w : World) (gc dc : Array Value) : At ((w.alloc (.cells gc 35)).alloc (.cells dc 40)) w.heap.size 35 gc ∧ At ((w.alloc (.cells gc 35)).alloc (.cells dc 40)) (w.heap.size + 1) 40 dc ∧
    Below w.heap.size w ((w.alloc (.cells gc 35)).alloc (.cells dc 40)) := by
  refine ⟨(At.new w _ gc).alloc _, ?_, ((Below.refl _ _).alloc (Nat.le_refl _) _).alloc (by simp) _⟩
  have := At.new (w.alloc (.cells gc 35)) 40 dc
  simpa using this

set_option maxHeartbeats 2000000 in
theorem awake6_any (w : World) (hT : Tab w) (h0 : 0 < w.heap.size) :
    Calls Tryd.prog 6 #[] w fun e w' => e = .returned (.bool true) ∧ Below w.heap.size w w' := by
  have HT := Lib.hid hT
  clear hT
  go_enter Tryd.func6, Tryd.ntmps6
  go_wp2_with fail
  refine (read_is ⟨#[37, 116, 111, 107, 101, 110, 32, 78, 32, 91, 48, 45, 57, 93, 43, 32, 37, 37, 32, 69, 32, 58, 32, 69, 32, 78, 32, 123, 49, 125, 32, 124, 32, 59]⟩ _ _ _ (by decide) HT.out h0 ra1 ra1d).mono ?_
  rintro e w1 ⟨⟨gv, rfl, hgi⟩, hb1⟩
  obtain ⟨tv, sv, lv, rv, rfl, ⟨A1, s1, rfl, k1⟩, ⟨A2, s2, rfl, k2⟩, ⟨A3, s3, pl, rfl, q3, k3, j3⟩, ⟨A4, s4, ql, rfl, q4, k4, j4⟩⟩ := hgi.ex
  simp only [List.length_cons, List.length_nil, diagV]
  have hs1 := hb1.size
  obtain ⟨hg1, hd1, hbn1⟩ := two_new w1 #[.slice A1 1 s1, .slice A2 0 s2, .slice A3 0 s3, .string (str [69]), .slice A4 2 s4] #[.int .i64 0, .int .i64 0, .int .i64 0]
  go_wp2_with fail
  obtain ⟨W1, hW1⟩ : ∃ W1, (w1.alloc (.cells #[.slice A1 1 s1, .slice A2 0 s2, .slice A3 0 s3, .string (str [69]), .slice A4 2 s4] 35)).alloc (.cells #[.int .i64 0, .int .i64 0, .int .i64 0] 40) = W1 := ⟨_, rfl⟩
  obtain ⟨g1, hge1⟩ : ∃ g1, w1.heap.size = g1 := ⟨_, rfl⟩
  have hB1 := hb1.trans (hbn1.mono hs1)
  rw [hW1] at hg1 hd1 hbn1 hB1 ⊢
  have hk1 := k1.below hbn1
  have hk4 := k4.below hbn1
  have hj4 : ∀ p ∈ ql, Nms W1 p.2 p.1.right := fun p hp => (j4 p hp).stay (Stay.below hbn1)
  rw [hge1] at hg1 hd1 ⊢
  have HG1 := Lib.hid hg1
  have HD1 := Lib.hid hd1
  have HB1 := Lib.hid hB1
  have HK1 := Lib.hid hk1
  have HK4 := Lib.hid hk4
  have HQ4 := Lib.hid q4
  have HJ4 := Lib.hid hj4
  have hT1 := HT.out.below hB1 h0
  have hS1 := hB1.size
  clear hgi k1 k2 k3 j3 k4 j4 q3 q4 hb1 hg1 hd1 hbn1 hB1 hk1 hk4 hj4 hs1 hW1 hge1
  refine (read_is ⟨#[37, 37, 32, 69, 32, 58, 32, 59, 32, 70]⟩ _ _ _ (by decide) hT1 (by omega) ra2 ra2d).mono ?_
  rintro e w2 ⟨⟨gv, rfl, hgi⟩, hb2⟩
  obtain ⟨tv, sv, lv, rv, rfl, ⟨B1, u1, rfl, k1⟩, ⟨B2, u2, rfl, k2⟩, ⟨B3, u3, pl2, rfl, q3, k3, j3⟩, ⟨B4, u4, ql2, rfl, q4, k4, j4⟩⟩ := hgi.ex
  simp only [Rd.zero, List.length_nil, diagV]
  have hs2 := hb2.size
  obtain ⟨hg2, hd2, hbn2⟩ := two_new w2 #[.slice B1 0 u1, .slice B2 0 u2, .slice B3 0 u3, .string (str []), .slice B4 0 u4] #[.int .i64 14, .int .i64 1, .int .i64 11]
  go_wp2_with fail
  obtain ⟨W2, hW2⟩ : ∃ W2, (w2.alloc (.cells #[.slice B1 0 u1, .slice B2 0 u2, .slice B3 0 u3, .string (str []), .slice B4 0 u4] 35)).alloc (.cells #[.int .i64 14, .int .i64 1, .int .i64 11] 40) = W2 := ⟨_, rfl⟩
  obtain ⟨g2, hge2⟩ : ∃ g2, w2.heap.size = g2 := ⟨_, rfl⟩
  have hBn := hb2.trans (hbn2.mono hs2)
  rw [hW2] at hg2 hd2 hbn2 hBn ⊢
  have HG12 := Lib.hid (HG1.out.below hBn HG1.out.lt)
  have HD12 := Lib.hid (HD1.out.below hBn HD1.out.lt)
  have HK12 := Lib.hid (HK1.out.below hBn)
  have HK42 := Lib.hid (HK4.out.below hBn)
  have HJ42 := Lib.hid (show ∀ p ∈ ql, Nms W2 p.2 p.1.right from fun p hp => (HJ4.out p hp).stay (Stay.below hBn))
  have HB2 := Lib.hid (HB1.out.trans (hBn.mono HB1.out.size))
  have hT2 := hT1.below hBn (by omega)
  rw [hge2] at hg2 hd2 ⊢
  have HG2 := Lib.hid hg2
  have HD2 := Lib.hid hd2
  have hS2 := HB2.out.size
  clear hgi k1 k2 k3 j3 k4 j4 q3 q4 hb2 hg2 hd2 hbn2 hBn hs2 hW2 hge2
  refine (read_is ⟨#[37, 108, 101, 102, 116, 32, 65, 32, 65, 32, 37, 37]⟩ _ _ _ (by decide) hT2 (by omega) ra3 ra3d).mono ?_
  rintro e w3 ⟨⟨gv, rfl, hgi⟩, hb3⟩
  obtain ⟨tv, sv, lv, rv, rfl, ⟨C1, v1, rfl, k1⟩, ⟨C2, v2, rfl, k2⟩, ⟨C3, v3, pl3, rfl, q3, k3, j3⟩, ⟨C4, v4, ql3, rfl, q4, k4, j4⟩⟩ := hgi.ex
  simp only [Rd.zero, List.length_nil, diagV]
  have hs3 := hb3.size
  obtain ⟨hg3, hd3, hbn3⟩ := two_new w3 #[.slice C1 0 v1, .slice C2 0 v2, .slice C3 0 v3, .string (str []), .slice C4 0 v4] #[.int .i64 15, .int .i64 1, .int .i64 9]
  have hBn := hb3.trans (hbn3.mono hs3)
  have HB3 := Lib.hid (HB2.out.trans (hBn.mono HB2.out.size))
  -- what the test reads, all of it in w3
  have a1 := HG12.out.below hb3 HG12.out.lt
  have a2 := HD12.out.below hb3 HD12.out.lt
  have a3 := HD2.out.below hb3 HD2.out.lt
  have hl1 := a1.lt
  have hl2 := a2.lt
  have hl3 := a3.lt
  have hl4 : g2 < w3.heap.size := by omega
  have x0 := a1.cell 0
  have x3 := a1.cell 3
  have x4 := a1.cell 4
  have y0 := a2.cell 0
  have z0 := a3.cell 0
  have z1 := a3.cell 1
  have z2 := a3.cell 2
  obtain ⟨p0, qr, rfl⟩ : ∃ p0 qr, ql = p0 :: qr := by
    cases ql with
    | nil => have := HQ4.out; simp at this
    | cons p r => exact ⟨p, r, rfl⟩
  obtain ⟨p1, qr, rfl⟩ : ∃ p1 qr', qr = p1 :: qr' := by
    cases qr with
    | nil => have := HQ4.out; simp at this
    | cons p r => exact ⟨p, r, rfl⟩
  obtain ⟨b4, o4, rfl, hb4, hc4⟩ := (HK42.out.below hb3).cell (by simp [rulesV, ruleCells])
  obtain ⟨b1, o1, rfl, hbb1, hc1⟩ := (HK12.out.below hb3).cell (by simp [toksV, Rd.Tok.cells])
  have hq0 : p0.1 = ⟨[69], [[69], [78]], [], [49]⟩ := by have := HQ4.out; simp at this; exact this.1
  have hq1 : p1.1 = ⟨[69], [], [], []⟩ := by have := HQ4.out; simp at this; exact this.2.1
  obtain ⟨A9, s9, hv9, _⟩ := HJ42.out p1 (by simp)
  rw [hq1] at hv9
  have r3 : w3.cell? ⟨b4, o4 + 3, none⟩ = some (.string (str p0.1.action)) := hc4 3 _ rfl
  have r5 : w3.cell? ⟨b4, o4 + 4 + 1, none⟩ = some p1.2 := hc4 5 _ rfl
  have t3 : w3.cell? ⟨b1, o1 + 3, none⟩ = some (.bool true) := hc1 3 _ rfl
  rw [hq0] at r3
  rw [hv9] at r5
  have r3' : w3.cell? ⟨b4, o4 + 3, none⟩ = some (.string ⟨#[49]⟩) := r3
  have r5' : w3.cell? ⟨b4, o4 + 4 + 1, none⟩ = some (.slice A9 0 s9) := r5
  have x3' : w3.cell? ⟨g1, 3, none⟩ = some (.string ⟨#[69]⟩) := x3
  simp only [List.getElem?_toArray, List.getElem?_cons_zero, List.getElem?_cons_succ] at x0 x4 y0 z0 z1 z2
  clear hgi k1 k2 k3 j3 k4 j4 q3 q4 hb3 hg3 hd3 hbn3 hBn hc4 hc1 hq0 hq1 hv9 r3 r5 x3 a1 a2 a3 hT1 hT2
  go_wp2_with fail
  go_ret
  exact ⟨rfl, HB3.out⟩

end Go.Proofs.YtgmihbfikggkjaaDoor
