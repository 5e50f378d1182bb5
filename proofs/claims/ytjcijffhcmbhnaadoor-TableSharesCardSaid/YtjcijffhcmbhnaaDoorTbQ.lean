import Derived.Test.YtjcijffhcmbhnaaDoorTbP
namespace Go.Proofs.YtjcijffhcmbhnaaDoor
set_option maxRecDepth 100000
open Go.RowKit
open BitKit
set_option linter.unusedVariables false
set_option linter.unusedSimpArgs false
def awR : List (List Int) := [[0, 1], [2, 0, 3], [0, 1, 0]]
theorem aw_ids : ints (Tb.ids awR) = [0, 1, 0] := by decide +kernel
theorem aw_idsI : Tb.idsI awR = [0, 1, 0] := by decide +kernel
theorem aw_outs : Tb.outs awR = [[0, 1], [2, 0, 3]] := by decide +kernel
theorem aw_base : Tb.base awR = [0, 0, 0] := by decide +kernel
theorem aw_nx : (Tb.pack (Tb.outs awR)).nx = [2, 1, 3] := by decide +kernel
theorem aw_ow : (Tb.pack (Tb.outs awR)).ow = [2, 1, 2] := by decide +kernel
theorem aw_short : Short awR := ⟨by decide, by decide⟩
theorem own_row {w : World} {B : Nat} {v : Value} {l : List Int} (h : OwnI w B v l) (hs : Small l) : Row w v l := row_own h hs
structure AwS (w w' : World) (B g : Nat) (a1 bv nv ov : Value) : Prop where
 at_ : At w' g 29 #[a1, bv, nv, ov]
 i : OwnI w' B a1 [0, 1, 0]
 b : OwnI w' B bv [0, 0, 0]
 n : OwnI w' B nv [2, 1, 3]
 o : OwnI w' B ov [2, 1, 2]
 below : Below w.heap.size w w'
theorem AwS.upto {w w' w'' : World} {B g : Nat} {a1 bv nv ov : Value} (h : AwS w w' B g a1 bv nv ov) (hb : Below w'.heap.size w' w'') : AwS w w'' B g a1 bv nv ov :=
 ⟨h.at_.below hb h.at_.lt, h.i.below hb, h.b.below hb, h.n.below hb, h.o.below hb, h.below.trans (below_le hb h.below.size)⟩
theorem AwS.drewN {w w' : World} {B g : Nat} {a1 bv nv ov : Value} (h : AwS w w' B g a1 bv nv ov) (k : Nat) : AwS w (w'.drewN k) B g a1 bv nv ov := h.upto (below_drewN (Below.refl _ _) k)
theorem AwS.alloc {w w' : World} {B g : Nat} {a1 bv nv ov : Value} (h : AwS w w' B g a1 bv nv ov) (o : Obj) : AwS w (w'.alloc o) B g a1 bv nv ov := h.upto ((Below.refl _ _).alloc (Nat.le_refl _) o)
theorem AwS.cells {w w' : World} {B g : Nat} {a1 bv nv ov : Value} (h : AwS w w' B g a1 bv nv ov) : w'.cell? ⟨g, 0, none⟩ = some a1 ∧ w'.cell? ⟨g, 1, none⟩ = some bv ∧ w'.cell? ⟨g, 2, none⟩ = some nv ∧ w'.cell? ⟨g, 3, none⟩ = some ov := by
 have p0 := h.at_.cell 0
 have p1 := h.at_.cell 1
 have p2 := h.at_.cell 2
 have p3 := h.at_.cell 3
 simp only [List.getElem?_toArray, List.getElem?_cons_zero, List.getElem?_cons_succ] at p0 p1 p2 p3
 exact ⟨p0, p1, p2, p3⟩
theorem ints_lit (B : Nat) (v : Value) (l m : List Int) (w : World) (h : OwnI w B v l) (hs : Small l) (hm : Small m) (hml : m.length ≤ 1000) (he : l = m) {b n : Nat} {ar : Array Value} (hb : w.heap.size = b) (hn : m.length = n) (ha : (vals m).toArray = ar) :
  Calls Tryd.prog 14 #[v, .slice (some ⟨b, 0, none⟩) n n] (w.alloc (.cells ar 3)) fun e w' => e = .returned (.bool true) ∧ ∃ k, w' = (w.alloc (.cells ar 3)).drewN k := by
 subst hb hn ha
 have := ints_says _ _ l m _ ((own_row h hs).below ((Below.refl _ _).alloc (Nat.le_refl _) (.cells (vals m).toArray 3))) (row_new w m hm hml)
 rw [decide_eq_true he] at this
 exact this
theorem at_lit (g B : Nat) (a1 bv nv ov : Value) (w W : World) (h : AwS W w B g a1 bv nv ov) : Calls Tryd.prog 19 #[.agg #[a1, bv, nv, ov], .int .i64 2, .int .i64 1] w fun e w' => e = .returned (.int .i64 1) ∧ Below w.heap.size w w' :=
 at_any B B B B a1 bv nv ov [0, 1, 0] [0, 0, 0] [2, 1, 3] [2, 1, 2] 3 3 2 1 0 1 0 1 1 w h.i h.b h.n h.o rfl rfl rfl rfl (by decide) rfl rfl rfl (by decide) rfl rfl (by decide) (by decide) (by decide)
theorem at_lit0 (g B : Nat) (a1 bv nv ov : Value) (w W : World) (h : AwS W w B g a1 bv nv ov) : Calls Tryd.prog 19 #[.agg #[a1, bv, nv, ov], .int .i64 0, .int .i64 0] w fun e w' => e = .returned (.int .i64 0) ∧ Below w.heap.size w w' :=
 at_any B B B B a1 bv nv ov [0, 1, 0] [0, 0, 0] [2, 1, 3] [2, 1, 2] 3 3 0 0 0 0 0 2 2 w h.i h.b h.n h.o rfl rfl rfl rfl (by decide) rfl rfl rfl (by decide) rfl rfl (by decide) (by decide) (by decide)
set_option maxHeartbeats 4000000 in
theorem awake_any (w : World) (hT : Tab w) (hT0 : 0 < w.heap.size) (hP : Pow w.heap.size w) : Calls Tryd.prog 8 #[] w fun e w' => e = .returned (.bool true) ∧ Below w.heap.size w w' := by
 have KT := Lib.hid hT
 have hR1 := lit3 w [0, 1] [2, 0, 3] [0, 1, 0] (small_of _ (by decide)) (small_of _ (by decide)) (small_of _ (by decide)) (by decide) (by decide) (by decide)
 have hb1 := below_up (below_up (below_up (below_up (Below.refl w.heap.size w) (.cells (vals [0, 1]).toArray 3)) (.cells (vals [2, 0, 3]).toArray 3)) (.cells (vals [0, 1, 0]).toArray 3)) (.cells #[.slice (some ⟨w.heap.size, 0, none⟩) 2 2, .slice (some ⟨w.heap.size + 1, 0, none⟩) 3 3, .slice (some ⟨w.heap.size + 1 + 1, 0, none⟩) 3 3] 25)
 have Kshare := Lib.hid (share_any _ awR _ hR1 aw_short (hP.up hb1 hb1.size))
 have KR1 := Lib.hid hR1
 have Kb1 := Lib.hid hb1
 have KP := Lib.hid hP
 clear hT hR1 hb1 hP
 go_enter Tryd.func8, Tryd.ntmps8
 go_wp2_with fail
 refine Kshare.out.mono ?_
 rintro e w2 ⟨v1, v2, rfl, hSh⟩
 have Kb2 := Lib.hid (Kb1.out.trans (below_le hSh.below Kb1.out.size))
 have hi2 := hSh.ids
 rw [aw_ids] at hi2
 have ho2 := hSh.rows (by rw [aw_outs]; intro l hl; simp at hl; rcases hl with rfl | rfl <;> exact small_of _ (by decide))
 rw [aw_outs] at ho2
 have hR2 := KR1.out.below hSh.below
 obtain ⟨A2, c2, hv2⟩ := ho2.shape
 rw [show [[(0 : Int), 1], [2, 0, 3]].length = 2 from rfl] at hv2
 subst hv2
 have Kpack := Lib.hid (pack_any _ awR w2 hR2 aw_short (KP.out.up Kb2.out Kb2.out.size) (KT.out.below Kb2.out hT0) (Nat.lt_of_lt_of_le hT0 Kb2.out.size))
 have Ki2 := Lib.hid hi2
 clear hSh hi2 ho2 hR2 Kshare KR1 Kb1
 go_wp2_with fail
 refine Kpack.out.mono ?_
 rintro e w3 ⟨u, rfl, hPk⟩
 obtain ⟨⟨a1, bv, nv, ov, rfl, hI, hB, hN, hO⟩, hb3⟩ := hPk
 rw [aw_idsI] at hI
 rw [aw_base] at hB
 rw [aw_nx] at hN
 rw [aw_ow] at hO
 obtain ⟨A3, c3, hva⟩ := hI.shape
 obtain ⟨A4, c4, hvb⟩ := hB.shape
 obtain ⟨A5, c5, hvn⟩ := hN.shape
 obtain ⟨A6, c6, hvo⟩ := hO.shape
 rw [show [(0 : Int), 1, 0].length = 3 from rfl] at hva
 rw [show [(0 : Int), 0, 0].length = 3 from rfl] at hvb
 rw [show [(2 : Int), 1, 3].length = 3 from rfl] at hvn
 rw [show [(2 : Int), 1, 2].length = 3 from rfl] at hvo
 subst hva hvb hvn hvo
 have hS : AwS w (w3.alloc (.cells #[.slice A3 3 c3, .slice A4 3 c4, .slice A5 3 c5, .slice A6 3 c6] 29)) w2.heap.size w3.heap.size (.slice A3 3 c3) (.slice A4 3 c4) (.slice A5 3 c5) (.slice A6 3 c6) := ⟨At.new _ _ _, hI.alloc _, hB.alloc _, hN.alloc _, hO.alloc _, below_up (Kb2.out.trans (below_le hb3 Kb2.out.size)) _⟩
 have hi4 := (Ki2.out.below hb3).alloc (.cells #[.slice A3 3 c3, .slice A4 3 c4, .slice A5 3 c5, .slice A6 3 c6] 29)
 have K1 := Lib.hid (ints_lit _ v1 [0, 1, 0] [0, 1, 0] _ hi4 (small_of _ (by decide)) (small_of _ (by decide)) (by decide) rfl (World.size_alloc _ _) (n := 3) rfl (ar := #[.int .i64 0, .int .i64 1, .int .i64 0]) rfl)
 have KS := Lib.hid hS
 clear hI hB hN hO hb3 hS hi4 Kpack Ki2 Kb2
 go_wp2_with fail
 refine K1.out.mono ?_
 rintro e w5 ⟨rfl, k5, hw5⟩
 have hS5 : AwS w w5 w2.heap.size w3.heap.size (.slice A3 3 c3) (.slice A4 3 c4) (.slice A5 3 c5) (.slice A6 3 c6) := by rw [hw5]; exact (KS.out.alloc (.cells #[.int .i64 0, .int .i64 1, .int .i64 0] 3)).drewN k5
 clear hw5 K1 KS
 obtain ⟨p0, p1, p2, p3⟩ := hS5.cells
 have K2 := Lib.hid (ints_lit _ (.slice A4 3 c4) [0, 0, 0] [0, 0, 0] _ hS5.b (small_of _ (by decide)) (small_of _ (by decide)) (by decide) rfl rfl (n := 3) rfl (ar := #[.int .i64 0, .int .i64 0, .int .i64 0]) rfl)
 have KS5 := Lib.hid hS5
 clear hS5
 go_wp2_with fail
 refine K2.out.mono ?_
 rintro e w6 ⟨rfl, k6, hw6⟩
 have hS6 : AwS w w6 w2.heap.size w3.heap.size (.slice A3 3 c3) (.slice A4 3 c4) (.slice A5 3 c5) (.slice A6 3 c6) := by rw [hw6]; exact (KS5.out.alloc (.cells #[.int .i64 0, .int .i64 0, .int .i64 0] 3)).drewN k6
 clear hw6 K2 KS5 p0 p1 p2 p3
 obtain ⟨p0, p1, p2, p3⟩ := hS6.cells
 have K3 := Lib.hid (ints_lit _ (.slice A5 3 c5) [2, 1, 3] [2, 1, 3] _ hS6.n (small_of _ (by decide)) (small_of _ (by decide)) (by decide) rfl rfl (n := 3) rfl (ar := #[.int .i64 2, .int .i64 1, .int .i64 3]) rfl)
 have KS6 := Lib.hid hS6
 clear hS6
 go_wp2_with fail
 refine K3.out.mono ?_
 rintro e w7 ⟨rfl, k7, hw7⟩
 have hS7 : AwS w w7 w2.heap.size w3.heap.size (.slice A3 3 c3) (.slice A4 3 c4) (.slice A5 3 c5) (.slice A6 3 c6) := by rw [hw7]; exact (KS6.out.alloc (.cells #[.int .i64 2, .int .i64 1, .int .i64 3] 3)).drewN k7
 clear hw7 K3 KS6 p0 p1 p2 p3
 obtain ⟨p0, p1, p2, p3⟩ := hS7.cells
 have K4 := Lib.hid (ints_lit _ (.slice A6 3 c6) [2, 1, 2] [2, 1, 2] _ hS7.o (small_of _ (by decide)) (small_of _ (by decide)) (by decide) rfl rfl (n := 3) rfl (ar := #[.int .i64 2, .int .i64 1, .int .i64 2]) rfl)
 have KS7 := Lib.hid hS7
 clear hS7
 go_wp2_with fail
 refine K4.out.mono ?_
 rintro e w8 ⟨rfl, k8, hw8⟩
 have hS8 : AwS w w8 w2.heap.size w3.heap.size (.slice A3 3 c3) (.slice A4 3 c4) (.slice A5 3 c5) (.slice A6 3 c6) := by rw [hw8]; exact (KS7.out.alloc (.cells #[.int .i64 2, .int .i64 1, .int .i64 2] 3)).drewN k8
 clear hw8 K4 KS7 p0 p1 p2 p3
 obtain ⟨p0, p1, p2, p3⟩ := hS8.cells
 have K5 := Lib.hid (at_lit _ _ (.slice A3 3 c3) (.slice A4 3 c4) (.slice A5 3 c5) (.slice A6 3 c6) _ _ hS8)
 have KS8 := Lib.hid hS8
 clear hS8
 go_wp2_with fail
 refine K5.out.mono ?_
 rintro e w9 ⟨rfl, hw9⟩
 have hS9 := KS8.out.upto hw9
 clear hw9 K5 KS8 p0 p1 p2 p3
 obtain ⟨p0, p1, p2, p3⟩ := hS9.cells
 have K6 := Lib.hid (at_lit0 _ _ (.slice A3 3 c3) (.slice A4 3 c4) (.slice A5 3 c5) (.slice A6 3 c6) _ _ hS9)
 have KS9 := Lib.hid hS9
 clear hS9
 go_wp2_with fail
 refine K6.out.mono ?_
 rintro e wX ⟨rfl, hwX⟩
 have KX := Lib.hid (KS9.out.upto hwX).below
 clear hwX K6 KS9 p0 p1 p2 p3
 go_wp2_with fail
 go_ret
 exact ⟨rfl, KX.out⟩
end Go.Proofs.YtjcijffhcmbhnaaDoor
