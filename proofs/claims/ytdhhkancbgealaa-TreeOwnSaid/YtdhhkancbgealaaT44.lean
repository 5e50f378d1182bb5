import Derived.Test.YtdhhkancbgealaaT43
import Derived.Test.YtdhhkancbgealaaT26
namespace Go.Proofs.Ytdhhkancbgealaa
open Go.RowKit Go.Shelf
open Lx
set_option linter.unusedVariables false
set_option linter.unusedSimpArgs false
set_option maxRecDepth 100000
namespace Tr
def ow1 (x : Tok) : List Nd := [leafOf x]
def ow2 (x y : Tok) : List Nd := [leafOf x, leafOf y]
def ow3 (x y : Tok) (r s : Int) : List Nd := [{ leafOf x with under := true }, { leafOf y with under := true }, nodeOf r s [0, 1]]
theorem ow_a (x : Tok) : leaf 10 [] x = ⟨0, 0, ow1 x⟩ := rfl
theorem ow_b (x y : Tok) : leaf 10 (ow1 x) y = ⟨1, 0, ow2 x y⟩ := rfl
theorem ow_c (x y : Tok) (r s : Int) : node 10 (ow2 x y) r s [0, 1] = ⟨2, 0, ow3 x y r s⟩ := rfl
theorem ow_good (x y : Tok) (r s : Int) : Good (ow3 x y r s) := by
 have h1 := good_leaf good_nil 10 x
 rw [ow_a] at h1
 have h2 := good_leaf h1 10 y
 rw [ow_b] at h2
 have h3 := good_node h2 10 r s [0, 1]
 rw [ow_c] at h3
 exact h3
theorem ow_kids (x y : Tok) (r s : Int) : (at_ (ow3 x y r s) 2).kids = [0, 1] := rfl
theorem ow_below (x y : Tok) (r s : Int) : below (ow3 x y r s) 2 = [0, 1, 2] := rfl
end Tr
structure OwI (w w' : World) (B tg g mb K Z : Nat) (l : Int) (L : List Tr.Nd) (bk : Nat) (c : Array Value) : Prop where
 tree : ∃ m S, TreeIs w' B tg g mb l m S ∧ nds S = L ∧ AOk (fun A => ∃ a : Addr, A = some a ∧ K ≤ a.block ∧ a.block < Z) S
 below : Below w.heap.size w w'
 low : w.heap.size ≤ B ∧ B ≤ w'.heap.size ∧ Z ≤ w'.heap.size
 box : At w' bk 56 c
section
variable {w w1 w2 : World} {B tg g mb K Z bk : Nat} {c : Array Value} {l : Int} {L : List Tr.Nd}
theorem OwI.quiet (h : OwI w w1 B tg g mb K Z l L bk c) (hb : Below w1.heap.size w1 w2) : OwI w w2 B tg g mb K Z l L bk c := by
 obtain ⟨m, S, h1, h2, h3⟩ := h.tree
 exact ⟨⟨m, S, h1.below hb, h2, h3⟩, h.below.trans (hb.mono h.below.size), ⟨h.low.1, Nat.le_trans h.low.2.1 hb.size, Nat.le_trans h.low.2.2 hb.size⟩, h.box.below hb h.box.lt⟩
theorem OwI.alloc (h : OwI w w1 B tg g mb K Z l L bk c) (o : Obj) : OwI w (w1.alloc o) B tg g mb K Z l L bk c := h.quiet ((Below.refl _ _).alloc (Nat.le_refl _) _)
theorem OwI.store (h : OwI w w1 B tg g mb K Z l L bk c) {b : Nat} {cs : Array Value} (hb : At w1 b 3 cs) (hd : b < K ∨ Z ≤ b) (hw : w.heap.size ≤ b) (o : Nat) (v : Value) : OwI w (w1.setCell ⟨b, o, none⟩ v) B tg g mb K Z l L bk c := by
 obtain ⟨m, S, h1, h2, h3⟩ := h.tree
 have hk : Keeps [b] w1 (w1.setCell ⟨b, o, none⟩ v) := (Keeps.refl [b] w1).set (.inl (by simp)) v
 have hs : Spares [3] w1 (w1.setCell ⟨b, o, none⟩ v) := hk.spares (fun q hq cs' t hh => by
  simp at hq; subst hq
  rw [hb.type hh]; simp)
 obtain ⟨vv, q1, q2⟩ := h1.ex
 refine ⟨⟨m, S, ⟨⟨vv, q1.spares hs (by decide), q2.spares hs (by decide) (by decide)⟩, h1.low, h1.meter.spares hs (by decide), fun s hm => ⟨fun hn => ?_⟩, h1.room, h1.len⟩, h2, h3⟩, h.below.trans (hk.below (fun x hx => by simp at hx; subst hx; exact hw) h.below.size), ⟨h.low.1, ?_, ?_⟩, h.box.spares hs (by decide)⟩
 ·obtain ⟨b', o', cs', e, k1, k2⟩ := (h1.kids s hm).ex hn
  obtain ⟨a, e2, k3, k4⟩ := h3 s hm (fun e => hn (by rw [e]; rfl))
  rw [e] at e2
  injection e2 with e2
  subst e2
  exact ⟨b', o', cs', e, k1.keeps hk (by simp; intro e; subst e; dsimp only at k3 k4; omega), k2⟩
 ·simpa using h.low.2.1
 ·simpa using h.low.2.2
theorem OwI.kids (h : OwI w w1 B tg g mb K Z l L bk c) (i : Int) : Calls Try.prog 12 #[.pointer (some ⟨tg, 0, none⟩), .int .i64 i] w1 fun e w' => ∃ A c', e = .returned (.slice A (Tr.at_ L i).kids.length c') ∧ w'.ownsRow w1.heap.size 3 1 (.slice A (Tr.at_ L i).kids.length c') (Tr.at_ L i).kids.length (vals (Tr.at_ L i).kids) ∧ OwI w w' B tg g mb K Z l L bk c := by
 obtain ⟨m, S, h1, rfl, h3⟩ := h.tree
 refine (tkids_any i w1 B tg g mb l m S h1).mono ?_
 rintro e w' ⟨A, c', rfl, ho, hb⟩
 exact ⟨A, c', rfl, ho, h.quiet hb⟩
theorem OwI.belows (h : OwI w w1 B tg g mb K Z l L bk c) (hg : Tr.Good L) (hn : L.length ≤ 300000) (i : Int) : Calls Try.prog 13 #[.pointer (some ⟨tg, 0, none⟩), .int .i64 i] w1 fun e w' => ∃ A c', e = .returned (.slice A (Tr.below L i).length c') ∧ w'.ownsRow w1.heap.size 3 1 (.slice A (Tr.below L i).length c') (Tr.below L i).length (vals (Tr.below L i)) ∧ OwI w w' B tg g mb K Z l L bk c := by
 obtain ⟨m, S, h1, rfl, h3⟩ := h.tree
 have := hg.bel_len i
 refine (tbelow_any i w1 B tg g mb l m S h1 hg.down (by omega)).mono ?_
 rintro e w' ⟨A, c', rfl, ho, hb⟩
 exact ⟨A, c', rfl, ho, h.quiet hb⟩
theorem OwI.tok (h : OwI w w1 B tg g mb K Z l L bk c) (i : Int) : Calls Try.prog 25 #[.pointer (some ⟨tg, 0, none⟩), .int .i64 i] w1 fun e w' => e = .returned (.agg #[.int .i64 (Tr.at_ L i).tok.t, .int .i64 (Tr.at_ L i).tok.a, .int .i64 (Tr.at_ L i).tok.b]) ∧ OwI w w' B tg g mb K Z l L bk c := by
 obtain ⟨m, S, h1, rfl, h3⟩ := h.tree
 refine (ttok_any i w1 B tg g mb l m S h1).mono ?_
 rintro e w' ⟨rfl, hb⟩
 exact ⟨rfl, h.quiet hb⟩
theorem OwI.rule (h : OwI w w1 B tg g mb K Z l L bk c) (i : Int) : Calls Try.prog 26 #[.pointer (some ⟨tg, 0, none⟩), .int .i64 i] w1 fun e w' => e = .returned (.int .i64 (Tr.at_ L i).rule) ∧ OwI w w' B tg g mb K Z l L bk c := by
 obtain ⟨m, S, h1, rfl, h3⟩ := h.tree
 refine (trule_any i w1 B tg g mb l m S h1).mono ?_
 rintro e w' ⟨rfl, hb⟩
 exact ⟨rfl, h.quiet hb⟩
theorem OwI.sym (h : OwI w w1 B tg g mb K Z l L bk c) (i : Int) : Calls Try.prog 27 #[.pointer (some ⟨tg, 0, none⟩), .int .i64 i] w1 fun e w' => e = .returned (.int .i64 (Tr.at_ L i).sym) ∧ OwI w w' B tg g mb K Z l L bk c := by
 obtain ⟨m, S, h1, rfl, h3⟩ := h.tree
 refine (tsym_any i w1 B tg g mb l m S h1).mono ?_
 rintro e w' ⟨rfl, hb⟩
 exact ⟨rfl, h.quiet hb⟩
end
theorem callIf {P : Program} {ops : Array Oper} {Q : Exit → Act → World → Prop} {K : Act → World → Prop} {o : Oper} {a : Act} {w : World} {fn : FuncId} {vs : Array Value} {F : Ending → World → Prop}
  (hw : Region.wanted o (yielded ops a.tmps) = true) (hrun : (execOp a.eval o).run P w = .ok (.enter fn vs) w) (hc : Calls P fn vs w F) (hF : ∀ e w', F e w' → ∃ v, e = .returned v ∧ K (a.put o.dst v) w') :
  if Region.wanted o (yielded ops a.tmps) = true then Oper.wp P o a w K Q else K (a.put o.dst undef) w := by
 rw [if_pos hw]
 unfold Oper.wp
 rw [hrun, Oper.upon_enter]
 refine hc.mono fun e w' h => ?_
 obtain ⟨v, rfl, hk⟩ := hF e w' h
 exact hk
set_option maxHeartbeats 16000000 in
theorem own18_law (x1 x2 x3 : Int) (y1 y2 y3 : Int) (r s : Int) (w : World) (hr : -9223372036854775808 ≤ r ∧ r ≤ 9223372036854775807) (hs : -9223372036854775808 ≤ s ∧ s ≤ 9223372036854775807) :
  Calls Try.prog 5 #[.agg #[.int .i64 x1, .int .i64 x2, .int .i64 x3], .agg #[.int .i64 y1, .int .i64 y2, .int .i64 y3], .int .i64 r, .int .i64 s] w fun e w' => e = .returned (.bool true) ∧ Below w.heap.size w w' := by
 obtain ⟨W, hW⟩ : ∃ W, (w.alloc (.cells #[.int .i64 x1, .int .i64 x2, .int .i64 x3] 56)).alloc (.cells #[.int .i64 y1, .int .i64 y2, .int .i64 y3] 56) = W := ⟨_, rfl⟩
 have hb : Below w.heap.size w W := by
  rw [← hW]
  exact ((Below.refl w.heap.size w).alloc (Nat.le_refl _) _).alloc (by simp) _
 have hsz : W.heap.size = w.heap.size + 2 := by rw [← hW]; simp
 have hX : At W w.heap.size 56 #[.int .i64 x1, .int .i64 x2, .int .i64 x3] := by rw [← hW]; exact (At.new _ _ _).alloc _
 have hY : At W (w.heap.size + 1) 56 #[.int .i64 y1, .int .i64 y2, .int .i64 y3] := by
  have := At.new (w.alloc (.cells #[.int .i64 x1, .int .i64 x2, .int .i64 x3] 56)) 56 #[.int .i64 y1, .int .i64 y2, .int .i64 y3]
  rw [World.size_alloc] at this
  rw [← hW]; exact this
 have HW := Lib.hid hW
 have HB := Lib.hid hb
 have HX := Lib.hid hX
 have HY := Lib.hid hY
 clear hW hb hX hY
 go_enter Try.func5, Try.ntmps5
 go_wp2_with fail
 rw [HW.out]
 refine (awake18_any W).mono ?_
 rintro e w1 ⟨rfl, hb1⟩
 have HB1 := Lib.hid (HB.out.trans (hb1.mono HB.out.size))
 have HX1 := Lib.hid (HX.out.below hb1 HX.out.lt)
 have HY1 := Lib.hid (HY.out.below hb1 HY.out.lt)
 have hs1 := hb1.size
 clear hb1 HX HY HW HB
 go_wp2_with fail
 refine (new_any 10 _).mono ?_
 rintro e w2 ⟨rfl, hw2⟩
 have hM : At w2 w1.heap.size 89 #[.int .i64 10, .int .i64 0, .int .i64 0] := by
  rw [← hw2, show hld 10 = 10 from rfl]; exact At.new _ _ _
 have hb2 : Below w1.heap.size w1 w2 := by rw [← hw2]; exact (Below.refl _ _).alloc (Nat.le_refl _) _
 have HNW := Lib.hid (tnew_any w1.heap.size w1.heap.size 10 0 w2 hM (by omega) hb2.size (Nat.le_refl _))
 have HBW2 := Lib.hid hb2
 clear hw2 hM hb2
 go_wp2_with fail
 refine HNW.out.mono ?_
 rintro e w3 ⟨tg, g, rfl, hT, htg, hb3⟩
 have hb13 := HBW2.out.trans (hb3.mono HBW2.out.size)
 have HT := Lib.hid hT
 have HB3 := Lib.hid (HB1.out.trans (hb13.mono HB1.out.size))
 have HX3 := Lib.hid (HX1.out.below hb13 HX1.out.lt)
 have HY3 := Lib.hid (HY1.out.below hb13 HY1.out.lt)
 have hs3 := hb13.size
 have xc := HX3.out.cell 0
 have xd := HX3.out.cell 1
 have xe := HX3.out.cell 2
 simp only [List.getElem?_toArray, List.getElem?_cons_zero, List.getElem?_cons_succ] at xc xd xe
 clear hT htg hb3 HNW HBW2 HX1 HY1 HB1 hb13
 go_wp2_with fail
 refine (tleafP_any ⟨x1, x2, x3⟩ w3 w1.heap.size tg g w1.heap.size 10 0 [] HT.out hs3).mono ?_
 rw [show nds [] = [] from rfl, Tr.ow_a]
 rintro e w4 ⟨rfl, hd⟩
 obtain ⟨m4, S4, hT4, hN4⟩ := hd.tree
 have HT4 := Lib.hid hT4
 have HN4 := Lib.hid hN4
 have hs4 := hd.below.size
 have HB4 := Lib.hid (HB3.out.trans (hd.below.mono (by omega)))
 have HY4 := Lib.hid (HY3.out.spares hd.spares (by decide))
 have hsz4 : w3.heap.size ≤ w4.heap.size := hd.spares.size
 have yc := HY4.out.cell 0
 have yd := HY4.out.cell 1
 have ye := HY4.out.cell 2
 simp only [List.getElem?_toArray, List.getElem?_cons_zero, List.getElem?_cons_succ] at yc yd ye
 clear hd hT4 hN4 HT HB3 HY3 HX3 xc xd xe
 go_wp2_with fail
 refine (tleafP_any ⟨y1, y2, y3⟩ w4 w1.heap.size tg g w1.heap.size 10 m4 S4 HT4.out (by omega)).mono ?_
 rw [HN4.out, Tr.ow_b]
 rintro e w5 ⟨rfl, hd⟩
 obtain ⟨m5, S5, hT5, hN5⟩ := hd.tree
 have hsz5 : w4.heap.size ≤ w5.heap.size := hd.spares.size
 obtain ⟨W5, hW5⟩ : ∃ W, w5.alloc (.cells #[.int .i64 0, .int .i64 1] 3) = W := ⟨_, rfl⟩
 have hb5 : Below w5.heap.size w5 W5 := by rw [← hW5]; exact (Below.refl _ _).alloc (Nat.le_refl _) _
 have hz5 : W5.heap.size = w5.heap.size + 1 := by rw [← hW5]; simp
 have hK5 : At W5 w5.heap.size 3 #[.int .i64 0, .int .i64 1] := by rw [← hW5]; exact At.new _ _ _
 have hL5 : Lie W5 3 (some ⟨w5.heap.size, 0, none⟩) (vals [0, 1]) := by rw [← hW5]; exact lie_new _ _ _
 have HT5 := Lib.hid (hT5.below hb5)
 have HN5 := Lib.hid hN5
 have HB5' := HB4.out.trans (hd.below.mono (by omega))
 have HB5 := Lib.hid (HB5'.trans (hb5.mono HB5'.size))
 have HY5 := Lib.hid ((HY4.out.spares hd.spares (by decide)).below hb5 (by have := (HY4.out.spares hd.spares (by decide)).lt; exact this))
 have HK5 := Lib.hid hK5
 have HL5 := Lib.hid hL5
 have HW5 := Lib.hid hW5
 have HF5 := Lib.hid (show AOk (fun A => ∃ a : Addr, A = some a ∧ W5.heap.size ≤ a.block) S5 from fun s hs hn => by
  have h1 : s.x ∈ nds S5 := List.mem_map.2 ⟨s, hs, rfl⟩
  rw [hN5] at h1
  simp [Tr.ow2] at h1
  rcases h1 with h1 | h1 <;> (rw [h1] at hn; exact absurd rfl hn))
 clear hd hT5 hN5 HT4 HN4 HB4 HY4 hb5 hK5 hL5 hW5 HB5' yc yd ye
 go_wp2_with fail
 rw [HW5.out]
 refine (tnode_own (fun A => ∃ a : Addr, A = some a ∧ W5.heap.size ≤ a.block) r s (some ⟨w5.heap.size, 0, none⟩) 2 2 [0, 1] W5 w1.heap.size tg g w1.heap.size 10 m5 S5 HT5.out (by omega) rfl HL5.out (by decide) HF5.out (fun a ha => ⟨a, rfl, ha⟩)).mono ?_
 rw [HN5.out, Tr.ow_c]
 rintro e w6 ⟨rfl, hd⟩
 obtain ⟨m6, S6, hT6, hN6, hF6⟩ := hd.tree
 have hsz6 : W5.heap.size ≤ w6.heap.size := hd.spares.size
 have HI6 := Lib.hid (show OwI w w6 w1.heap.size tg g w1.heap.size W5.heap.size w6.heap.size 10 (Tr.ow3 ⟨x1, x2, x3⟩ ⟨y1, y2, y3⟩ r s) (w.heap.size + 1) #[.int .i64 y1, .int .i64 y2, .int .i64 y3] from
  ⟨⟨m6, S6, hT6, hN6, fun q hq hn => by
   obtain ⟨a, e, ha⟩ := hF6 q hq hn
   obtain ⟨b', o', cs', e2, k1, k2⟩ := (hT6.kids q hq).ex (by intro e3; exact hn (by simpa [vals] using e3))
   rw [e] at e2; injection e2 with e2; subst e2
   exact ⟨_, e, ha, k1.lt⟩⟩, HB5.out.trans (hd.below.mono (by omega)), ⟨by omega, by omega, Nat.le_refl _⟩, HY5.out.spares hd.spares (by decide)⟩)
 have hK6 := HK5.out.spares hd.spares (by decide)
 have HK6 := Lib.hid hK6
 have k0 := hK6.cell 0
 have kz := hK6.frozen 0
 have kl := hK6.lt
 simp only [List.getElem?_toArray, List.getElem?_cons_zero, List.getElem?_cons_succ] at k0
 clear hd hT6 hN6 hF6 HT5 HN5 HB5 HY5 HK5 HL5 HW5 HF5 hK6
 go_wp2_with fail
 have HI7 := Lib.hid (HI6.out.store HK6.out (.inl (by omega)) (by omega) 0 (.int .i64 1))
 have hs7 : (w6.setCell ⟨w5.heap.size, 0, none⟩ (.int .i64 1)).heap.size = w6.heap.size := by simp
 have hge6 : w.heap.size ≤ w6.heap.size := HI6.out.below.size
 have HI7b := Lib.hid (HI7.out.kids 2)
 rw [Tr.ow_kids] at HI7b
 simp only [List.length_cons, List.length_nil, Nat.zero_add, Nat.reduceAdd] at HI7b
 clear k0 kz kl HI6 HK6
 refine HI7b.out.mono ?_
 rintro e w8 ⟨A8, c8, rfl, ho8, hi8⟩
 rw [hs7] at ho8
 have HL8 := Lib.hid (Lie.own ho8)
 obtain ⟨a8, hA8, hge8⟩ := own_from ho8 (by decide)
 obtain ⟨b8, o8, cs8, hA8', hat8, hcs8⟩ := HL8.out.ex (by decide)
 rw [hA8'] at hA8
 injection hA8 with hA8
 subst hA8 hA8'
 dsimp only at hge8
 have HC8 := Lib.hid (hcs8 0 _ rfl)
 have HI8 := Lib.hid hi8
 have HAT8 := Lib.hid hat8
 have HGE8 := Lib.hid hge8
 clear ho8 hi8 hat8 hcs8 hge8
 have q8 : w6.heap.size ≤ w8.heap.size := Nat.le_trans HGE8.out (Nat.le_of_lt HAT8.out.lt)
 have HIN8 := Lib.hid (intsL_any _ _ 2 2 c8 2 [0, 1] [0, 1] _ rfl rfl (HL8.out.alloc (.cells #[.int .i64 0, .int .i64 1] 3)) (lie_new w8 3 [.int .i64 0, .int .i64 1]) (by decide))
 rw [show decide (([0, 1] : List Int) = [0, 1]) = true from rfl] at HIN8
 clear HI7 HI7b
 go_wp2_with fail
 refine HIN8.out.mono ?_
 rintro e w9 ⟨rfl, hb9⟩
 have hb89 : Below w8.heap.size w8 w9 := ((Below.refl w8.heap.size w8).alloc (Nat.le_refl _) _).trans (hb9.mono (by simp))
 have HI9 := Lib.hid (HI8.out.quiet hb89)
 have HAT9 := Lib.hid (HAT8.out.below hb89 HAT8.out.lt)
 have m0 := HAT9.out.cell (o8 + 0)
 rw [show cs8[o8 + 0]? = some (.int .i64 0) from HC8.out] at m0
 have mz := HAT9.out.frozen (o8 + 0)
 have ml := HAT9.out.lt
 have ml0 := (Array.getElem?_eq_some_iff.1 HC8.out).1
 have q9 : w6.heap.size ≤ w9.heap.size := Nat.le_trans q8 hb89.size
 simp only [Nat.add_zero] at m0 mz
 clear hb9 HIN8 hb89 HI8 HL8
 go_wp2_with fail
 have HI10 := Lib.hid (HI9.out.store HAT9.out (.inr (Nat.le_trans (by omega) HGE8.out)) (Nat.le_trans (by omega) HGE8.out) o8 (.int .i64 7))
 have hs10 : (w9.setCell ⟨b8, o8, none⟩ (.int .i64 7)).heap.size = w9.heap.size := by simp
 have HI10b := Lib.hid (HI10.out.belows (Tr.ow_good _ _ _ _) (by show 3 ≤ 300000; decide) 2)
 rw [Tr.ow_below] at HI10b
 simp only [List.length_cons, List.length_nil, Nat.zero_add, Nat.reduceAdd] at HI10b
 clear m0 mz ml ml0 HI9 HAT9
 refine HI10b.out.mono ?_
 rintro e w11 ⟨A11, c11, rfl, ho11, hi11⟩
 rw [hs10] at ho11
 have HL11 := Lib.hid (Lie.own ho11)
 obtain ⟨a11, hA11, hge11⟩ := own_from ho11 (by decide)
 obtain ⟨b11, o11, cs11, hA11', hat11, hcs11⟩ := HL11.out.ex (by decide)
 rw [hA11'] at hA11
 injection hA11 with hA11
 subst hA11 hA11'
 dsimp only at hge11
 have HC11 := Lib.hid (hcs11 0 _ rfl)
 have HI11 := Lib.hid hi11
 have HAT11 := Lib.hid hat11
 have HGE11 := Lib.hid hge11
 clear ho11 hi11 hat11 hcs11 hge11
 have q11 : w9.heap.size ≤ w11.heap.size := Nat.le_trans HGE11.out (Nat.le_of_lt HAT11.out.lt)
 have m0 := HAT11.out.cell (o11 + 0)
 rw [show cs11[o11 + 0]? = some (.int .i64 0) from HC11.out] at m0
 have mz := HAT11.out.frozen (o11 + 0)
 have ml := HAT11.out.lt
 have ml0 := (Array.getElem?_eq_some_iff.1 HC11.out).1
 simp only [Nat.add_zero] at m0 mz
 clear HI10 HI10b HL11
 go_wp2_with fail
 have HI12 := Lib.hid (HI11.out.store HAT11.out (.inr (Nat.le_trans (by omega) HGE11.out)) (Nat.le_trans (by omega) HGE11.out) o11 (.int .i64 9))
 have hs12 : (w11.setCell ⟨b11, o11, none⟩ (.int .i64 9)).heap.size = w11.heap.size := by simp
 clear m0 mz ml ml0 HI11 HAT11
 obtain ⟨I, hI⟩ : ∃ I : World → Prop, I = fun w' => OwI w w' w1.heap.size tg g w1.heap.size W5.heap.size w6.heap.size 10 (Tr.ow3 ⟨x1, x2, x3⟩ ⟨y1, y2, y3⟩ r s) (w.heap.size + 1) #[.int .i64 y1, .int .i64 y2, .int .i64 y3] := ⟨_, rfl⟩
 have hcur : I (w11.setCell ⟨b11, o11, none⟩ (.int .i64 9)) := by rw [hI]; exact HI12.out
 have KQ := Lib.hid (show ∀ w' w'', I w' → Below w'.heap.size w' w'' → I w'' from fun w' w'' h hb => by rw [hI] at h ⊢; exact h.quiet hb)
 have KB := Lib.hid (show ∀ w', I w' → Below w.heap.size w w' from fun w' h => by rw [hI] at h; exact h.below)
 have KC := Lib.hid (show ∀ w', I w' → w'.cell? ⟨w.heap.size + 1, 0, none⟩ = some (.int .i64 y1) ∧ w'.cell? ⟨w.heap.size + 1, 0 + 1, none⟩ = some (.int .i64 y2) ∧ w'.cell? ⟨w.heap.size + 1, 0 + 2, none⟩ = some (.int .i64 y3) from fun w' h => by
  rw [hI] at h
  have a := h.box.cell 0
  have b := h.box.cell 1
  have c := h.box.cell 2
  simp only [List.getElem?_toArray, List.getElem?_cons_zero, List.getElem?_cons_succ] at a b c
  exact ⟨a, b, c⟩)
 have K1 := Lib.hid (show ∀ w', I w' → Calls Try.prog 12 #[.pointer (some ⟨tg, 0, none⟩), .int .i64 2] w' fun e w'' => ∃ A c, e = .returned (.slice A 2 c) ∧ Lie w'' 3 A (vals [0, 1]) ∧ I w'' ∧ Below w'.heap.size w' w'' from fun w' h => by
  rw [hI] at h
  obtain ⟨m, S, h1, h2, h3⟩ := h.tree
  refine (tkids_any 2 w' _ _ _ _ _ m S h1).mono ?_
  rw [h2, Tr.ow_kids]
  rintro e w'' ⟨A, c, rfl, ho, hb⟩
  exact ⟨A, c, rfl, Lie.own ho, by rw [hI]; exact h.quiet hb, hb⟩)
 have K2 := Lib.hid (show ∀ w', I w' → Calls Try.prog 13 #[.pointer (some ⟨tg, 0, none⟩), .int .i64 2] w' fun e w'' => ∃ A c, e = .returned (.slice A 3 c) ∧ Lie w'' 3 A (vals [0, 1, 2]) ∧ I w'' ∧ Below w'.heap.size w' w'' from fun w' h => by
  rw [hI] at h
  obtain ⟨m, S, h1, h2, h3⟩ := h.tree
  refine (tbelow_any 2 w' _ _ _ _ _ m S h1 (by rw [h2]; exact (Tr.ow_good _ _ _ _).down) (by rw [h2]; exact Nat.le_trans ((Tr.ow_good _ _ _ _).bel_len 2) (by show 4 ≤ 400000; decide))).mono ?_
  rw [h2, Tr.ow_below]
  rintro e w'' ⟨A, c, rfl, ho, hb⟩
  exact ⟨A, c, rfl, Lie.own ho, by rw [hI]; exact h.quiet hb, hb⟩)
 have K3 := Lib.hid (show ∀ w', I w' → Calls Try.prog 25 #[.pointer (some ⟨tg, 0, none⟩), .int .i64 1] w' fun e w'' => e = .returned (.agg #[.int .i64 y1, .int .i64 y2, .int .i64 y3]) ∧ I w'' from fun w' h => by
  rw [hI] at h ⊢
  exact h.tok 1)
 have K4 := Lib.hid (show ∀ w', I w' → Calls Try.prog 26 #[.pointer (some ⟨tg, 0, none⟩), .int .i64 2] w' fun e w'' => e = .returned (.int .i64 r) ∧ I w'' from fun w' h => by
  rw [hI] at h ⊢
  exact h.rule 2)
 have K5 := Lib.hid (show ∀ w', I w' → Calls Try.prog 27 #[.pointer (some ⟨tg, 0, none⟩), .int .i64 2] w' fun e w'' => e = .returned (.int .i64 s) ∧ I w'' from fun w' h => by
  rw [hI] at h ⊢
  exact h.sym 2)
 have K6 := Lib.hid (show ∀ w', I w' → Calls Try.prog 26 #[.pointer (some ⟨tg, 0, none⟩), .int .i64 0] w' fun e w'' => e = .returned (.int .i64 (-1)) ∧ I w'' from fun w' h => by
  rw [hI] at h ⊢
  exact h.rule 0)
 have KI := Lib.hid (show ∀ (n : Nat) (l : List Int) w' A c A' c', l.length = n → n ≤ 10 → Lie w' 3 A (vals l) → Lie w' 3 A' (vals l) → Calls Try.prog 24 #[.slice A n c, .slice A' n c'] w' fun e w'' => e = .returned (.bool true) ∧ Below w'.heap.size w' w'' from fun n l w' A c A' c' hl hn h1 h2 => by
  have := intsL_any A A' n n c c' l l w' hl hl h1 h2 (by omega)
  rw [decide_eq_true rfl] at this
  exact this)
 have KLT := Lib.hid (show ∀ w', I w' → w.heap.size + 1 < w'.heap.size from fun w' h => by rw [hI] at h; exact h.box.lt)
 clear hI HI12
 generalize (w11.setCell ⟨b11, o11, none⟩ (.int .i64 9)) = w12 at hcur ⊢
 have HL1 := Lib.hid (show ∀ w', I w' → w.heap.size + 1 < w'.heap.size from fun w' h => by have := KB.out _ h; have h2 := KC.out _ h; exact KLT.out _ h)
 have hi00 : I w12.drew := KQ.out _ _ hcur (below_drew (Below.refl _ _))
 refine Zed.begin_ I [] (by kernel_rfl) ?_
 refine Zd.pureD (i := 0) (d := some 65) (v := ?vq0x1) rfl rfl (by kernel_rfl) (by kernel_rfl) (by kernel_rfl) (by kernel_rfl) (by kernel_rfl) (fun _ _ _ h => h) (Or.inl ⟨by kernel_rfl, ?hyq0x1⟩) (.inr hi00) ?restq0x1
 case hyq0x1 => (intro w _; go_simp; try with_reducible rfl)
 try simp only [Act.put, List.setIfInBounds_toArray, List.set_cons_zero, List.set_cons_succ]
 refine Zd.pureD (i := 1) (d := some 66) (v := ?vq1x2) rfl rfl (by kernel_rfl) (by kernel_rfl) (by kernel_rfl) (by kernel_rfl) (by kernel_rfl) (fun _ _ _ h => h) (Or.inl ⟨by kernel_rfl, ?hyq1x2⟩) (.inr hi00) ?restq1x2
 case hyq1x2 => (intro w _; go_simp; try with_reducible rfl)
 try simp only [Act.put, List.setIfInBounds_toArray, List.set_cons_zero, List.set_cons_succ]
 refine Zd.pureD (i := 2) (d := some 67) (v := ?vq2x3) rfl rfl (by kernel_rfl) (by kernel_rfl) (by kernel_rfl) (by kernel_rfl) (by kernel_rfl) (fun _ _ _ h => h) (Or.inl ⟨by kernel_rfl, ?hyq2x3⟩) (.inr hi00) ?restq2x3
 case hyq2x3 => (intro w _; go_simp; try with_reducible rfl)
 try simp only [Act.put, List.setIfInBounds_toArray, List.set_cons_zero, List.set_cons_succ]
 refine Zd.pureD (i := 3) (d := some 68) (v := ?vq3x4) rfl rfl (by kernel_rfl) (by kernel_rfl) (by kernel_rfl) (by kernel_rfl) (by kernel_rfl) (fun _ _ _ h => h) (Or.inl ⟨by kernel_rfl, ?hyq3x4⟩) (.inr hi00) ?restq3x4
 case hyq3x4 => (intro w _; go_simp; try with_reducible rfl)
 try simp only [Act.put, List.setIfInBounds_toArray, List.set_cons_zero, List.set_cons_succ]
 refine Zed.two (i := 4) (j := 5) (by kernel_rfl) rfl rfl (fun K hK => ?_) (fun K hK => ?_)
 ·refine callIf (by kernel_rfl) (by kernel_rfl) (K1.out _ hi00) ?_
  rintro e wa ⟨Ax, cx, rfl, HLx0, hi0, hbx⟩
  refine ⟨_, rfl, ?_⟩
  refine hK.out _ _ (.inr hi0) ?_
  clear hK K
  try simp only [Act.put, List.setIfInBounds_toArray, List.set_cons_zero, List.set_cons_succ]
  refine Zed.one (i := 5) (by kernel_rfl) rfl (fun K hK => ?_)
  go_simp
  have hi := KQ.out _ _ hi0 ((Below.refl _ _).alloc (Nat.le_refl _) (.cells #[.int .i64 0, .int .i64 1] 3))
  have HLx := HLx0.alloc (.cells #[.int .i64 0, .int .i64 1] 3)
  have HLb := lie_new wa 3 [.int .i64 0, .int .i64 1]
  refine hK.out _ _ (.inr hi) ?_
  clear hK K
  try simp only [Act.put, List.setIfInBounds_toArray, List.set_cons_zero, List.set_cons_succ]
  refine Zd.call (i := 6) (d := some 71) (by kernel_rfl) rfl rfl (by kernel_rfl) (by kernel_rfl) (KI.out 2 [0, 1] _ Ax cx _ 2 rfl (by decide) HLx HLb) ?_
  rintro e w106 ⟨rfl, hb6⟩
  refine ⟨_, rfl, KQ.out _ _ hi hb6, ?_⟩
  try simp only [Act.put, List.setIfInBounds_toArray, List.set_cons_zero, List.set_cons_succ]
  have hi6 := KQ.out _ _ hi hb6
  clear hi hi0 HLx HLb
  refine Zd.pureD (i := 7) (d := some 72) (v := ?vq7x5) rfl rfl (by kernel_rfl) (by kernel_rfl) (by kernel_rfl) (by kernel_rfl) (by kernel_rfl) (fun _ _ _ h => h) (Or.inl ⟨by kernel_rfl, ?hyq7x5⟩) (.inr hi6) ?restq7x5
  case hyq7x5 => (intro w _; go_simp; try with_reducible rfl)
  try simp only [Act.put, List.setIfInBounds_toArray, List.set_cons_zero, List.set_cons_succ]
  refine Zd.pureD (i := 8) (d := some 73) (v := ?vq8x6) rfl rfl (by kernel_rfl) (by kernel_rfl) (by kernel_rfl) (by kernel_rfl) (by kernel_rfl) (fun _ _ _ h => h) (Or.inl ⟨by kernel_rfl, ?hyq8x6⟩) (.inr hi6) ?restq8x6
  case hyq8x6 => (intro w _; go_simp; try with_reducible rfl)
  try simp only [Act.put, List.setIfInBounds_toArray, List.set_cons_zero, List.set_cons_succ]
  refine Zd.pureD (i := 9) (d := some 74) (v := ?vq9x7) rfl rfl (by kernel_rfl) (by kernel_rfl) (by kernel_rfl) (by kernel_rfl) (by kernel_rfl) (fun _ _ _ h => h) (Or.inl ⟨by kernel_rfl, ?hyq9x7⟩) (.inr hi6) ?restq9x7
  case hyq9x7 => (intro w _; go_simp; try with_reducible rfl)
  try simp only [Act.put, List.setIfInBounds_toArray, List.set_cons_zero, List.set_cons_succ]
  refine Zd.pureD (i := 10) (d := some 75) (v := ?vq10x8) rfl rfl (by kernel_rfl) (by kernel_rfl) (by kernel_rfl) (by kernel_rfl) (by kernel_rfl) (fun _ _ _ h => h) (Or.inl ⟨by kernel_rfl, ?hyq10x8⟩) (.inr hi6) ?restq10x8
  case hyq10x8 => (intro w _; go_simp; try with_reducible rfl)
  try simp only [Act.put, List.setIfInBounds_toArray, List.set_cons_zero, List.set_cons_succ]
  refine Zed.two (i := 11) (j := 12) (by kernel_rfl) rfl rfl (fun K hK => ?_) (fun K hK => ?_)
  ·refine callIf (by kernel_rfl) (by kernel_rfl) (K2.out _ hi6) ?_
   rintro e wa ⟨Ax, cx, rfl, HLx0, hi0, hbx⟩
   refine ⟨_, rfl, ?_⟩
   refine hK.out _ _ (.inr hi0) ?_
   clear hK K
   try simp only [Act.put, List.setIfInBounds_toArray, List.set_cons_zero, List.set_cons_succ]
   refine Zed.one (i := 12) (by kernel_rfl) rfl (fun K hK => ?_)
   go_simp
   have hi := KQ.out _ _ hi0 ((Below.refl _ _).alloc (Nat.le_refl _) (.cells #[.int .i64 0, .int .i64 1, .int .i64 2] 3))
   have HLx := HLx0.alloc (.cells #[.int .i64 0, .int .i64 1, .int .i64 2] 3)
   have HLb := lie_new wa 3 [.int .i64 0, .int .i64 1, .int .i64 2]
   refine hK.out _ _ (.inr hi) ?_
   clear hK K
   try simp only [Act.put, List.setIfInBounds_toArray, List.set_cons_zero, List.set_cons_succ]
   refine Zd.call (i := 13) (d := some 78) (by kernel_rfl) rfl rfl (by kernel_rfl) (by kernel_rfl) (KI.out 3 [0, 1, 2] _ Ax cx _ 3 rfl (by decide) HLx HLb) ?_
   rintro e w113 ⟨rfl, hb13⟩
   refine ⟨_, rfl, KQ.out _ _ hi hb13, ?_⟩
   try simp only [Act.put, List.setIfInBounds_toArray, List.set_cons_zero, List.set_cons_succ]
   have hi13 := KQ.out _ _ hi hb13
   refine Zd.pureD (i := 14) (d := some 79) (v := ?vq14x9) rfl rfl (by kernel_rfl) (by kernel_rfl) (by kernel_rfl) (by kernel_rfl) (by kernel_rfl) (fun _ _ _ h => h) (Or.inl ⟨by kernel_rfl, ?hyq14x9⟩) (.inr hi13) ?restq14x9
   case hyq14x9 => (intro w _; go_simp; try with_reducible rfl)
   try simp only [Act.put, List.setIfInBounds_toArray, List.set_cons_zero, List.set_cons_succ]
   refine Zd.pureD (i := 15) (d := some 80) (v := ?vq15x10) rfl rfl (by kernel_rfl) (by kernel_rfl) (by kernel_rfl) (by kernel_rfl) (by kernel_rfl) (fun _ _ _ h => h) (Or.inl ⟨by kernel_rfl, ?hyq15x10⟩) (.inr hi13) ?restq15x10
   case hyq15x10 => (intro w _; go_simp; try with_reducible rfl)
   try simp only [Act.put, List.setIfInBounds_toArray, List.set_cons_zero, List.set_cons_succ]
   refine Zd.pureD (i := 16) (d := some 81) (v := ?vq16x11) rfl rfl (by kernel_rfl) (by kernel_rfl) (by kernel_rfl) (by kernel_rfl) (by kernel_rfl) (fun _ _ _ h => h) (Or.inl ⟨by kernel_rfl, ?hyq16x11⟩) (.inr hi13) ?restq16x11
   case hyq16x11 => (intro w _; go_simp; try with_reducible rfl)
   try simp only [Act.put, List.setIfInBounds_toArray, List.set_cons_zero, List.set_cons_succ]
   refine Zd.takeD (i := 18) (d := some 83) (v := ?vq18x12) rfl rfl (by kernel_rfl) (by kernel_rfl) (by kernel_rfl) (by kernel_rfl) (by kernel_rfl) (fun _ _ _ h => h) (Or.inl ⟨by kernel_rfl, ?hyq18x12⟩) hi13 ?restq18x12
   case hyq18x12 => (intro w hSw; obtain ⟨ya, yb, yc⟩ := KC.out _ hSw; have yl := HL1.out _ hSw; go_simp; try with_reducible rfl)
   try simp only [Act.put, List.setIfInBounds_toArray, List.set_cons_zero, List.set_cons_succ]
   refine Zd.call (i := 17) (d := some 82) (by kernel_rfl) rfl rfl (by kernel_rfl) (by kernel_rfl) (K3.out _ hi13) ?_
   rintro e w117 ⟨rfl, hi17⟩
   refine ⟨_, rfl, hi17, ?_⟩
   try simp only [Act.put, List.setIfInBounds_toArray, List.set_cons_zero, List.set_cons_succ]
   refine Zd.pureD (i := 19) (d := some 84) (v := ?vq19x13) rfl rfl (by kernel_rfl) (by kernel_rfl) (by kernel_rfl) (by kernel_rfl) (by kernel_rfl) (fun _ _ _ h => h) (Or.inl ⟨by kernel_rfl, ?hyq19x13⟩) (.inr hi17) ?restq19x13
   case hyq19x13 => (intro w _; go_simp; try with_reducible rfl)
   try simp only [Act.put, List.setIfInBounds_toArray, List.set_cons_zero, List.set_cons_succ]
   refine Zd.pureD (i := 20) (d := some 85) (v := ?vq20x14) rfl rfl (by kernel_rfl) (by kernel_rfl) (by kernel_rfl) (by kernel_rfl) (by kernel_rfl) (fun _ _ _ h => h) (Or.inl ⟨by kernel_rfl, ?hyq20x14⟩) (.inr hi17) ?restq20x14
   case hyq20x14 => (intro w _; go_simp; try with_reducible rfl)
   try simp only [Act.put, List.setIfInBounds_toArray, List.set_cons_zero, List.set_cons_succ]
   refine Zd.pureD (i := 21) (d := some 86) (v := ?vq21x15) rfl rfl (by kernel_rfl) (by kernel_rfl) (by kernel_rfl) (by kernel_rfl) (by kernel_rfl) (fun _ _ _ h => h) (Or.inl ⟨by kernel_rfl, ?hyq21x15⟩) (.inr hi17) ?restq21x15
   case hyq21x15 => (intro w _; go_simp; try with_reducible rfl)
   try simp only [Act.put, List.setIfInBounds_toArray, List.set_cons_zero, List.set_cons_succ]
   refine Zd.pureD (i := 22) (d := some 87) (v := ?vq22x16) rfl rfl (by kernel_rfl) (by kernel_rfl) (by kernel_rfl) (by kernel_rfl) (by kernel_rfl) (fun _ _ _ h => h) (Or.inl ⟨by kernel_rfl, ?hyq22x16⟩) (.inr hi17) ?restq22x16
   case hyq22x16 => (intro w _; go_simp; try with_reducible rfl)
   try simp only [Act.put, List.setIfInBounds_toArray, List.set_cons_zero, List.set_cons_succ]
   refine Zd.pureD (i := 23) (d := some 88) (v := ?vq23x17) rfl rfl (by kernel_rfl) (by kernel_rfl) (by kernel_rfl) (by kernel_rfl) (by kernel_rfl) (fun _ _ _ h => h) (Or.inl ⟨by kernel_rfl, ?hyq23x17⟩) (.inr hi17) ?restq23x17
   case hyq23x17 => (intro w _; go_simp; try with_reducible rfl)
   try simp only [Act.put, List.setIfInBounds_toArray, List.set_cons_zero, List.set_cons_succ]
   refine Zd.pureD (i := 25) (d := some 90) (v := ?vq25x18) rfl rfl (by kernel_rfl) (by kernel_rfl) (by kernel_rfl) (by kernel_rfl) (by kernel_rfl) (fun _ _ _ h => h) (Or.inl ⟨by kernel_rfl, ?hyq25x18⟩) (.inr hi17) ?restq25x18
   case hyq25x18 => (intro w _; go_simp; try with_reducible rfl)
   try simp only [Act.put, List.setIfInBounds_toArray, List.set_cons_zero, List.set_cons_succ]
   refine Zd.call (i := 24) (d := some 89) (by kernel_rfl) rfl rfl (by kernel_rfl) (by kernel_rfl) (K4.out _ hi17) ?_
   rintro e w124 ⟨rfl, hi24⟩
   refine ⟨_, rfl, hi24, ?_⟩
   try simp only [Act.put, List.setIfInBounds_toArray, List.set_cons_zero, List.set_cons_succ]
   refine Zd.pureD (i := 26) (d := some 91) (v := ?vq26x19) rfl rfl (by kernel_rfl) (by kernel_rfl) (by kernel_rfl) (by kernel_rfl) (by kernel_rfl) (fun _ _ _ h => h) (Or.inl ⟨by kernel_rfl, ?hyq26x19⟩) (.inr hi24) ?restq26x19
   case hyq26x19 => (intro w _; go_simp; try with_reducible rfl)
   try simp only [Act.put, List.setIfInBounds_toArray, List.set_cons_zero, List.set_cons_succ]
   refine Zd.pureD (i := 27) (d := some 92) (v := ?vq27x20) rfl rfl (by kernel_rfl) (by kernel_rfl) (by kernel_rfl) (by kernel_rfl) (by kernel_rfl) (fun _ _ _ h => h) (Or.inl ⟨by kernel_rfl, ?hyq27x20⟩) (.inr hi24) ?restq27x20
   case hyq27x20 => (intro w _; go_simp; try with_reducible rfl)
   try simp only [Act.put, List.setIfInBounds_toArray, List.set_cons_zero, List.set_cons_succ]
   refine Zd.pureD (i := 28) (d := some 93) (v := ?vq28x21) rfl rfl (by kernel_rfl) (by kernel_rfl) (by kernel_rfl) (by kernel_rfl) (by kernel_rfl) (fun _ _ _ h => h) (Or.inl ⟨by kernel_rfl, ?hyq28x21⟩) (.inr hi24) ?restq28x21
   case hyq28x21 => (intro w _; go_simp; try with_reducible rfl)
   try simp only [Act.put, List.setIfInBounds_toArray, List.set_cons_zero, List.set_cons_succ]
   refine Zd.pureD (i := 29) (d := some 94) (v := ?vq29x22) rfl rfl (by kernel_rfl) (by kernel_rfl) (by kernel_rfl) (by kernel_rfl) (by kernel_rfl) (fun _ _ _ h => h) (Or.inl ⟨by kernel_rfl, ?hyq29x22⟩) (.inr hi24) ?restq29x22
   case hyq29x22 => (intro w _; go_simp; try with_reducible rfl)
   try simp only [Act.put, List.setIfInBounds_toArray, List.set_cons_zero, List.set_cons_succ]
   refine Zd.pureD (i := 30) (d := some 95) (v := ?vq30x23) rfl rfl (by kernel_rfl) (by kernel_rfl) (by kernel_rfl) (by kernel_rfl) (by kernel_rfl) (fun _ _ _ h => h) (Or.inl ⟨by kernel_rfl, ?hyq30x23⟩) (.inr hi24) ?restq30x23
   case hyq30x23 => (intro w _; go_simp; try with_reducible rfl)
   try simp only [Act.put, List.setIfInBounds_toArray, List.set_cons_zero, List.set_cons_succ]
   refine Zd.pureD (i := 32) (d := some 97) (v := ?vq32x24) rfl rfl (by kernel_rfl) (by kernel_rfl) (by kernel_rfl) (by kernel_rfl) (by kernel_rfl) (fun _ _ _ h => h) (Or.inl ⟨by kernel_rfl, ?hyq32x24⟩) (.inr hi24) ?restq32x24
   case hyq32x24 => (intro w _; go_simp; try with_reducible rfl)
   try simp only [Act.put, List.setIfInBounds_toArray, List.set_cons_zero, List.set_cons_succ]
   refine Zd.call (i := 31) (d := some 96) (by kernel_rfl) rfl rfl (by kernel_rfl) (by kernel_rfl) (K5.out _ hi24) ?_
   rintro e w131 ⟨rfl, hi31⟩
   refine ⟨_, rfl, hi31, ?_⟩
   try simp only [Act.put, List.setIfInBounds_toArray, List.set_cons_zero, List.set_cons_succ]
   refine Zd.pureD (i := 33) (d := some 98) (v := ?vq33x25) rfl rfl (by kernel_rfl) (by kernel_rfl) (by kernel_rfl) (by kernel_rfl) (by kernel_rfl) (fun _ _ _ h => h) (Or.inl ⟨by kernel_rfl, ?hyq33x25⟩) (.inr hi31) ?restq33x25
   case hyq33x25 => (intro w _; go_simp; try with_reducible rfl)
   try simp only [Act.put, List.setIfInBounds_toArray, List.set_cons_zero, List.set_cons_succ]
   refine Zd.pureD (i := 34) (d := some 99) (v := ?vq34x26) rfl rfl (by kernel_rfl) (by kernel_rfl) (by kernel_rfl) (by kernel_rfl) (by kernel_rfl) (fun _ _ _ h => h) (Or.inl ⟨by kernel_rfl, ?hyq34x26⟩) (.inr hi31) ?restq34x26
   case hyq34x26 => (intro w _; go_simp; try with_reducible rfl)
   try simp only [Act.put, List.setIfInBounds_toArray, List.set_cons_zero, List.set_cons_succ]
   refine Zd.pureD (i := 35) (d := some 100) (v := ?vq35x27) rfl rfl (by kernel_rfl) (by kernel_rfl) (by kernel_rfl) (by kernel_rfl) (by kernel_rfl) (fun _ _ _ h => h) (Or.inl ⟨by kernel_rfl, ?hyq35x27⟩) (.inr hi31) ?restq35x27
   case hyq35x27 => (intro w _; go_simp; try with_reducible rfl)
   try simp only [Act.put, List.setIfInBounds_toArray, List.set_cons_zero, List.set_cons_succ]
   refine Zd.pureD (i := 36) (d := some 101) (v := ?vq36x28) rfl rfl (by kernel_rfl) (by kernel_rfl) (by kernel_rfl) (by kernel_rfl) (by kernel_rfl) (fun _ _ _ h => h) (Or.inl ⟨by kernel_rfl, ?hyq36x28⟩) (.inr hi31) ?restq36x28
   case hyq36x28 => (intro w _; go_simp; try with_reducible rfl)
   try simp only [Act.put, List.setIfInBounds_toArray, List.set_cons_zero, List.set_cons_succ]
   refine Zd.call (i := 37) (d := some 102) (by kernel_rfl) rfl rfl (by kernel_rfl) (by kernel_rfl) (K6.out _ hi31) ?_
   rintro e w137 ⟨rfl, hi37⟩
   refine ⟨_, rfl, hi37, ?_⟩
   try simp only [Act.put, List.setIfInBounds_toArray, List.set_cons_zero, List.set_cons_succ]
   refine Zd.pureD (i := 38) (d := some 103) (v := ?vq38x29) rfl rfl (by kernel_rfl) (by kernel_rfl) (by kernel_rfl) (by kernel_rfl) (by kernel_rfl) (fun _ _ _ h => h) (Or.inl ⟨by kernel_rfl, ?hyq38x29⟩) (.inr hi37) ?restq38x29
   case hyq38x29 => (intro w _; go_simp; try with_reducible rfl)
   try simp only [Act.put, List.setIfInBounds_toArray, List.set_cons_zero, List.set_cons_succ]
   refine Zd.pureD (i := 39) (d := some 104) (v := ?vq39x30) rfl rfl (by kernel_rfl) (by kernel_rfl) (by kernel_rfl) (by kernel_rfl) (by kernel_rfl) (fun _ _ _ h => h) (Or.inl ⟨by kernel_rfl, ?hyq39x30⟩) (.inr hi37) ?restq39x30
   case hyq39x30 => (intro w _; go_simp; try with_reducible rfl)
   try simp only [Act.put, List.setIfInBounds_toArray, List.set_cons_zero, List.set_cons_succ]
   refine Zd.pureD (i := 40) (d := some 8) (v := ?vq40x31) rfl rfl (by kernel_rfl) (by kernel_rfl) (by kernel_rfl) (by kernel_rfl) (by kernel_rfl) (fun _ _ _ h => h) (Or.inl ⟨by kernel_rfl, ?hyq40x31⟩) (.inr hi37) ?restq40x31
   case hyq40x31 => (intro w _; go_simp; try with_reducible rfl)
   try simp only [Act.put, List.setIfInBounds_toArray, List.set_cons_zero, List.set_cons_succ]
   refine Zed.all (by kernel_rfl) ?_ _
   go_wp2_with fail
   go_ret
   exact ⟨rfl, KB.out _ hi37⟩
  ·go_simp
   have hi0 := KQ.out _ _ hi6 ((Below.refl _ _).alloc (Nat.le_refl _) (.cells #[.int .i64 0, .int .i64 1, .int .i64 2] 3))
   have HLb0 := lie_new w106 3 [.int .i64 0, .int .i64 1, .int .i64 2]
   refine hK.out _ _ (.inr hi0) ?_
   clear hK K
   try simp only [Act.put, List.setIfInBounds_toArray, List.set_cons_zero, List.set_cons_succ]
   refine Zd.call (i := 11) (d := some 76) (by kernel_rfl) rfl rfl (by kernel_rfl) (by kernel_rfl) (K2.out _ hi0) ?_
   rintro e wa ⟨Ax, cx, rfl, HLx, hi, hbx⟩
   refine ⟨_, rfl, hi, ?_⟩
   try simp only [Act.put, List.setIfInBounds_toArray, List.set_cons_zero, List.set_cons_succ]
   have HLb := HLb0.below hbx
   refine Zd.call (i := 13) (d := some 78) (by kernel_rfl) rfl rfl (by kernel_rfl) (by kernel_rfl) (KI.out 3 [0, 1, 2] _ Ax cx _ 3 rfl (by decide) HLx HLb) ?_
   rintro e w113 ⟨rfl, hb13⟩
   refine ⟨_, rfl, KQ.out _ _ hi hb13, ?_⟩
   try simp only [Act.put, List.setIfInBounds_toArray, List.set_cons_zero, List.set_cons_succ]
   have hi13 := KQ.out _ _ hi hb13
   refine Zd.pureD (i := 14) (d := some 79) (v := ?vq14x32) rfl rfl (by kernel_rfl) (by kernel_rfl) (by kernel_rfl) (by kernel_rfl) (by kernel_rfl) (fun _ _ _ h => h) (Or.inl ⟨by kernel_rfl, ?hyq14x32⟩) (.inr hi13) ?restq14x32
   case hyq14x32 => (intro w _; go_simp; try with_reducible rfl)
   try simp only [Act.put, List.setIfInBounds_toArray, List.set_cons_zero, List.set_cons_succ]
   refine Zd.pureD (i := 15) (d := some 80) (v := ?vq15x33) rfl rfl (by kernel_rfl) (by kernel_rfl) (by kernel_rfl) (by kernel_rfl) (by kernel_rfl) (fun _ _ _ h => h) (Or.inl ⟨by kernel_rfl, ?hyq15x33⟩) (.inr hi13) ?restq15x33
   case hyq15x33 => (intro w _; go_simp; try with_reducible rfl)
   try simp only [Act.put, List.setIfInBounds_toArray, List.set_cons_zero, List.set_cons_succ]
   refine Zd.pureD (i := 16) (d := some 81) (v := ?vq16x34) rfl rfl (by kernel_rfl) (by kernel_rfl) (by kernel_rfl) (by kernel_rfl) (by kernel_rfl) (fun _ _ _ h => h) (Or.inl ⟨by kernel_rfl, ?hyq16x34⟩) (.inr hi13) ?restq16x34
   case hyq16x34 => (intro w _; go_simp; try with_reducible rfl)
   try simp only [Act.put, List.setIfInBounds_toArray, List.set_cons_zero, List.set_cons_succ]
   refine Zd.takeD (i := 18) (d := some 83) (v := ?vq18x35) rfl rfl (by kernel_rfl) (by kernel_rfl) (by kernel_rfl) (by kernel_rfl) (by kernel_rfl) (fun _ _ _ h => h) (Or.inl ⟨by kernel_rfl, ?hyq18x35⟩) hi13 ?restq18x35
   case hyq18x35 => (intro w hSw; obtain ⟨ya, yb, yc⟩ := KC.out _ hSw; have yl := HL1.out _ hSw; go_simp; try with_reducible rfl)
   try simp only [Act.put, List.setIfInBounds_toArray, List.set_cons_zero, List.set_cons_succ]
   refine Zd.call (i := 17) (d := some 82) (by kernel_rfl) rfl rfl (by kernel_rfl) (by kernel_rfl) (K3.out _ hi13) ?_
   rintro e w117 ⟨rfl, hi17⟩
   refine ⟨_, rfl, hi17, ?_⟩
   try simp only [Act.put, List.setIfInBounds_toArray, List.set_cons_zero, List.set_cons_succ]
   refine Zd.pureD (i := 19) (d := some 84) (v := ?vq19x36) rfl rfl (by kernel_rfl) (by kernel_rfl) (by kernel_rfl) (by kernel_rfl) (by kernel_rfl) (fun _ _ _ h => h) (Or.inl ⟨by kernel_rfl, ?hyq19x36⟩) (.inr hi17) ?restq19x36
   case hyq19x36 => (intro w _; go_simp; try with_reducible rfl)
   try simp only [Act.put, List.setIfInBounds_toArray, List.set_cons_zero, List.set_cons_succ]
   refine Zd.pureD (i := 20) (d := some 85) (v := ?vq20x37) rfl rfl (by kernel_rfl) (by kernel_rfl) (by kernel_rfl) (by kernel_rfl) (by kernel_rfl) (fun _ _ _ h => h) (Or.inl ⟨by kernel_rfl, ?hyq20x37⟩) (.inr hi17) ?restq20x37
   case hyq20x37 => (intro w _; go_simp; try with_reducible rfl)
   try simp only [Act.put, List.setIfInBounds_toArray, List.set_cons_zero, List.set_cons_succ]
   refine Zd.pureD (i := 21) (d := some 86) (v := ?vq21x38) rfl rfl (by kernel_rfl) (by kernel_rfl) (by kernel_rfl) (by kernel_rfl) (by kernel_rfl) (fun _ _ _ h => h) (Or.inl ⟨by kernel_rfl, ?hyq21x38⟩) (.inr hi17) ?restq21x38
   case hyq21x38 => (intro w _; go_simp; try with_reducible rfl)
   try simp only [Act.put, List.setIfInBounds_toArray, List.set_cons_zero, List.set_cons_succ]
   refine Zd.pureD (i := 22) (d := some 87) (v := ?vq22x39) rfl rfl (by kernel_rfl) (by kernel_rfl) (by kernel_rfl) (by kernel_rfl) (by kernel_rfl) (fun _ _ _ h => h) (Or.inl ⟨by kernel_rfl, ?hyq22x39⟩) (.inr hi17) ?restq22x39
   case hyq22x39 => (intro w _; go_simp; try with_reducible rfl)
   try simp only [Act.put, List.setIfInBounds_toArray, List.set_cons_zero, List.set_cons_succ]
   refine Zd.pureD (i := 23) (d := some 88) (v := ?vq23x40) rfl rfl (by kernel_rfl) (by kernel_rfl) (by kernel_rfl) (by kernel_rfl) (by kernel_rfl) (fun _ _ _ h => h) (Or.inl ⟨by kernel_rfl, ?hyq23x40⟩) (.inr hi17) ?restq23x40
   case hyq23x40 => (intro w _; go_simp; try with_reducible rfl)
   try simp only [Act.put, List.setIfInBounds_toArray, List.set_cons_zero, List.set_cons_succ]
   refine Zd.pureD (i := 25) (d := some 90) (v := ?vq25x41) rfl rfl (by kernel_rfl) (by kernel_rfl) (by kernel_rfl) (by kernel_rfl) (by kernel_rfl) (fun _ _ _ h => h) (Or.inl ⟨by kernel_rfl, ?hyq25x41⟩) (.inr hi17) ?restq25x41
   case hyq25x41 => (intro w _; go_simp; try with_reducible rfl)
   try simp only [Act.put, List.setIfInBounds_toArray, List.set_cons_zero, List.set_cons_succ]
   refine Zd.call (i := 24) (d := some 89) (by kernel_rfl) rfl rfl (by kernel_rfl) (by kernel_rfl) (K4.out _ hi17) ?_
   rintro e w124 ⟨rfl, hi24⟩
   refine ⟨_, rfl, hi24, ?_⟩
   try simp only [Act.put, List.setIfInBounds_toArray, List.set_cons_zero, List.set_cons_succ]
   refine Zd.pureD (i := 26) (d := some 91) (v := ?vq26x42) rfl rfl (by kernel_rfl) (by kernel_rfl) (by kernel_rfl) (by kernel_rfl) (by kernel_rfl) (fun _ _ _ h => h) (Or.inl ⟨by kernel_rfl, ?hyq26x42⟩) (.inr hi24) ?restq26x42
   case hyq26x42 => (intro w _; go_simp; try with_reducible rfl)
   try simp only [Act.put, List.setIfInBounds_toArray, List.set_cons_zero, List.set_cons_succ]
   refine Zd.pureD (i := 27) (d := some 92) (v := ?vq27x43) rfl rfl (by kernel_rfl) (by kernel_rfl) (by kernel_rfl) (by kernel_rfl) (by kernel_rfl) (fun _ _ _ h => h) (Or.inl ⟨by kernel_rfl, ?hyq27x43⟩) (.inr hi24) ?restq27x43
   case hyq27x43 => (intro w _; go_simp; try with_reducible rfl)
   try simp only [Act.put, List.setIfInBounds_toArray, List.set_cons_zero, List.set_cons_succ]
   refine Zd.pureD (i := 28) (d := some 93) (v := ?vq28x44) rfl rfl (by kernel_rfl) (by kernel_rfl) (by kernel_rfl) (by kernel_rfl) (by kernel_rfl) (fun _ _ _ h => h) (Or.inl ⟨by kernel_rfl, ?hyq28x44⟩) (.inr hi24) ?restq28x44
   case hyq28x44 => (intro w _; go_simp; try with_reducible rfl)
   try simp only [Act.put, List.setIfInBounds_toArray, List.set_cons_zero, List.set_cons_succ]
   refine Zd.pureD (i := 29) (d := some 94) (v := ?vq29x45) rfl rfl (by kernel_rfl) (by kernel_rfl) (by kernel_rfl) (by kernel_rfl) (by kernel_rfl) (fun _ _ _ h => h) (Or.inl ⟨by kernel_rfl, ?hyq29x45⟩) (.inr hi24) ?restq29x45
   case hyq29x45 => (intro w _; go_simp; try with_reducible rfl)
   try simp only [Act.put, List.setIfInBounds_toArray, List.set_cons_zero, List.set_cons_succ]
   refine Zd.pureD (i := 30) (d := some 95) (v := ?vq30x46) rfl rfl (by kernel_rfl) (by kernel_rfl) (by kernel_rfl) (by kernel_rfl) (by kernel_rfl) (fun _ _ _ h => h) (Or.inl ⟨by kernel_rfl, ?hyq30x46⟩) (.inr hi24) ?restq30x46
   case hyq30x46 => (intro w _; go_simp; try with_reducible rfl)
   try simp only [Act.put, List.setIfInBounds_toArray, List.set_cons_zero, List.set_cons_succ]
   refine Zd.pureD (i := 32) (d := some 97) (v := ?vq32x47) rfl rfl (by kernel_rfl) (by kernel_rfl) (by kernel_rfl) (by kernel_rfl) (by kernel_rfl) (fun _ _ _ h => h) (Or.inl ⟨by kernel_rfl, ?hyq32x47⟩) (.inr hi24) ?restq32x47
   case hyq32x47 => (intro w _; go_simp; try with_reducible rfl)
   try simp only [Act.put, List.setIfInBounds_toArray, List.set_cons_zero, List.set_cons_succ]
   refine Zd.call (i := 31) (d := some 96) (by kernel_rfl) rfl rfl (by kernel_rfl) (by kernel_rfl) (K5.out _ hi24) ?_
   rintro e w131 ⟨rfl, hi31⟩
   refine ⟨_, rfl, hi31, ?_⟩
   try simp only [Act.put, List.setIfInBounds_toArray, List.set_cons_zero, List.set_cons_succ]
   refine Zd.pureD (i := 33) (d := some 98) (v := ?vq33x48) rfl rfl (by kernel_rfl) (by kernel_rfl) (by kernel_rfl) (by kernel_rfl) (by kernel_rfl) (fun _ _ _ h => h) (Or.inl ⟨by kernel_rfl, ?hyq33x48⟩) (.inr hi31) ?restq33x48
   case hyq33x48 => (intro w _; go_simp; try with_reducible rfl)
   try simp only [Act.put, List.setIfInBounds_toArray, List.set_cons_zero, List.set_cons_succ]
   refine Zd.pureD (i := 34) (d := some 99) (v := ?vq34x49) rfl rfl (by kernel_rfl) (by kernel_rfl) (by kernel_rfl) (by kernel_rfl) (by kernel_rfl) (fun _ _ _ h => h) (Or.inl ⟨by kernel_rfl, ?hyq34x49⟩) (.inr hi31) ?restq34x49
   case hyq34x49 => (intro w _; go_simp; try with_reducible rfl)
   try simp only [Act.put, List.setIfInBounds_toArray, List.set_cons_zero, List.set_cons_succ]
   refine Zd.pureD (i := 35) (d := some 100) (v := ?vq35x50) rfl rfl (by kernel_rfl) (by kernel_rfl) (by kernel_rfl) (by kernel_rfl) (by kernel_rfl) (fun _ _ _ h => h) (Or.inl ⟨by kernel_rfl, ?hyq35x50⟩) (.inr hi31) ?restq35x50
   case hyq35x50 => (intro w _; go_simp; try with_reducible rfl)
   try simp only [Act.put, List.setIfInBounds_toArray, List.set_cons_zero, List.set_cons_succ]
   refine Zd.pureD (i := 36) (d := some 101) (v := ?vq36x51) rfl rfl (by kernel_rfl) (by kernel_rfl) (by kernel_rfl) (by kernel_rfl) (by kernel_rfl) (fun _ _ _ h => h) (Or.inl ⟨by kernel_rfl, ?hyq36x51⟩) (.inr hi31) ?restq36x51
   case hyq36x51 => (intro w _; go_simp; try with_reducible rfl)
   try simp only [Act.put, List.setIfInBounds_toArray, List.set_cons_zero, List.set_cons_succ]
   refine Zd.call (i := 37) (d := some 102) (by kernel_rfl) rfl rfl (by kernel_rfl) (by kernel_rfl) (K6.out _ hi31) ?_
   rintro e w137 ⟨rfl, hi37⟩
   refine ⟨_, rfl, hi37, ?_⟩
   try simp only [Act.put, List.setIfInBounds_toArray, List.set_cons_zero, List.set_cons_succ]
   refine Zd.pureD (i := 38) (d := some 103) (v := ?vq38x52) rfl rfl (by kernel_rfl) (by kernel_rfl) (by kernel_rfl) (by kernel_rfl) (by kernel_rfl) (fun _ _ _ h => h) (Or.inl ⟨by kernel_rfl, ?hyq38x52⟩) (.inr hi37) ?restq38x52
   case hyq38x52 => (intro w _; go_simp; try with_reducible rfl)
   try simp only [Act.put, List.setIfInBounds_toArray, List.set_cons_zero, List.set_cons_succ]
   refine Zd.pureD (i := 39) (d := some 104) (v := ?vq39x53) rfl rfl (by kernel_rfl) (by kernel_rfl) (by kernel_rfl) (by kernel_rfl) (by kernel_rfl) (fun _ _ _ h => h) (Or.inl ⟨by kernel_rfl, ?hyq39x53⟩) (.inr hi37) ?restq39x53
   case hyq39x53 => (intro w _; go_simp; try with_reducible rfl)
   try simp only [Act.put, List.setIfInBounds_toArray, List.set_cons_zero, List.set_cons_succ]
   refine Zd.pureD (i := 40) (d := some 8) (v := ?vq40x54) rfl rfl (by kernel_rfl) (by kernel_rfl) (by kernel_rfl) (by kernel_rfl) (by kernel_rfl) (fun _ _ _ h => h) (Or.inl ⟨by kernel_rfl, ?hyq40x54⟩) (.inr hi37) ?restq40x54
   case hyq40x54 => (intro w _; go_simp; try with_reducible rfl)
   try simp only [Act.put, List.setIfInBounds_toArray, List.set_cons_zero, List.set_cons_succ]
   refine Zed.all (by kernel_rfl) ?_ _
   go_wp2_with fail
   go_ret
   exact ⟨rfl, KB.out _ hi37⟩
 ·go_simp
  have hi0 := KQ.out _ _ hi00 ((Below.refl _ _).alloc (Nat.le_refl _) (.cells #[.int .i64 0, .int .i64 1] 3))
  have HLb0 := lie_new w12.drew 3 [.int .i64 0, .int .i64 1]
  refine hK.out _ _ (.inr hi0) ?_
  clear hK K
  try simp only [Act.put, List.setIfInBounds_toArray, List.set_cons_zero, List.set_cons_succ]
  refine Zd.call (i := 4) (d := some 69) (by kernel_rfl) rfl rfl (by kernel_rfl) (by kernel_rfl) (K1.out _ hi0) ?_
  rintro e wa ⟨Ax, cx, rfl, HLx, hi, hbx⟩
  refine ⟨_, rfl, hi, ?_⟩
  try simp only [Act.put, List.setIfInBounds_toArray, List.set_cons_zero, List.set_cons_succ]
  have HLb := HLb0.below hbx
  refine Zd.call (i := 6) (d := some 71) (by kernel_rfl) rfl rfl (by kernel_rfl) (by kernel_rfl) (KI.out 2 [0, 1] _ Ax cx _ 2 rfl (by decide) HLx HLb) ?_
  rintro e w106 ⟨rfl, hb6⟩
  refine ⟨_, rfl, KQ.out _ _ hi hb6, ?_⟩
  try simp only [Act.put, List.setIfInBounds_toArray, List.set_cons_zero, List.set_cons_succ]
  have hi6 := KQ.out _ _ hi hb6
  clear hi hi0 HLx HLb
  refine Zd.pureD (i := 7) (d := some 72) (v := ?vq7x55) rfl rfl (by kernel_rfl) (by kernel_rfl) (by kernel_rfl) (by kernel_rfl) (by kernel_rfl) (fun _ _ _ h => h) (Or.inl ⟨by kernel_rfl, ?hyq7x55⟩) (.inr hi6) ?restq7x55
  case hyq7x55 => (intro w _; go_simp; try with_reducible rfl)
  try simp only [Act.put, List.setIfInBounds_toArray, List.set_cons_zero, List.set_cons_succ]
  refine Zd.pureD (i := 8) (d := some 73) (v := ?vq8x56) rfl rfl (by kernel_rfl) (by kernel_rfl) (by kernel_rfl) (by kernel_rfl) (by kernel_rfl) (fun _ _ _ h => h) (Or.inl ⟨by kernel_rfl, ?hyq8x56⟩) (.inr hi6) ?restq8x56
  case hyq8x56 => (intro w _; go_simp; try with_reducible rfl)
  try simp only [Act.put, List.setIfInBounds_toArray, List.set_cons_zero, List.set_cons_succ]
  refine Zd.pureD (i := 9) (d := some 74) (v := ?vq9x57) rfl rfl (by kernel_rfl) (by kernel_rfl) (by kernel_rfl) (by kernel_rfl) (by kernel_rfl) (fun _ _ _ h => h) (Or.inl ⟨by kernel_rfl, ?hyq9x57⟩) (.inr hi6) ?restq9x57
  case hyq9x57 => (intro w _; go_simp; try with_reducible rfl)
  try simp only [Act.put, List.setIfInBounds_toArray, List.set_cons_zero, List.set_cons_succ]
  refine Zd.pureD (i := 10) (d := some 75) (v := ?vq10x58) rfl rfl (by kernel_rfl) (by kernel_rfl) (by kernel_rfl) (by kernel_rfl) (by kernel_rfl) (fun _ _ _ h => h) (Or.inl ⟨by kernel_rfl, ?hyq10x58⟩) (.inr hi6) ?restq10x58
  case hyq10x58 => (intro w _; go_simp; try with_reducible rfl)
  try simp only [Act.put, List.setIfInBounds_toArray, List.set_cons_zero, List.set_cons_succ]
  refine Zed.two (i := 11) (j := 12) (by kernel_rfl) rfl rfl (fun K hK => ?_) (fun K hK => ?_)
  ·refine callIf (by kernel_rfl) (by kernel_rfl) (K2.out _ hi6) ?_
   rintro e wa ⟨Ax, cx, rfl, HLx0, hi0, hbx⟩
   refine ⟨_, rfl, ?_⟩
   refine hK.out _ _ (.inr hi0) ?_
   clear hK K
   try simp only [Act.put, List.setIfInBounds_toArray, List.set_cons_zero, List.set_cons_succ]
   refine Zed.one (i := 12) (by kernel_rfl) rfl (fun K hK => ?_)
   go_simp
   have hi := KQ.out _ _ hi0 ((Below.refl _ _).alloc (Nat.le_refl _) (.cells #[.int .i64 0, .int .i64 1, .int .i64 2] 3))
   have HLx := HLx0.alloc (.cells #[.int .i64 0, .int .i64 1, .int .i64 2] 3)
   have HLb := lie_new wa 3 [.int .i64 0, .int .i64 1, .int .i64 2]
   refine hK.out _ _ (.inr hi) ?_
   clear hK K
   try simp only [Act.put, List.setIfInBounds_toArray, List.set_cons_zero, List.set_cons_succ]
   refine Zd.call (i := 13) (d := some 78) (by kernel_rfl) rfl rfl (by kernel_rfl) (by kernel_rfl) (KI.out 3 [0, 1, 2] _ Ax cx _ 3 rfl (by decide) HLx HLb) ?_
   rintro e w113 ⟨rfl, hb13⟩
   refine ⟨_, rfl, KQ.out _ _ hi hb13, ?_⟩
   try simp only [Act.put, List.setIfInBounds_toArray, List.set_cons_zero, List.set_cons_succ]
   have hi13 := KQ.out _ _ hi hb13
   refine Zd.pureD (i := 14) (d := some 79) (v := ?vq14x59) rfl rfl (by kernel_rfl) (by kernel_rfl) (by kernel_rfl) (by kernel_rfl) (by kernel_rfl) (fun _ _ _ h => h) (Or.inl ⟨by kernel_rfl, ?hyq14x59⟩) (.inr hi13) ?restq14x59
   case hyq14x59 => (intro w _; go_simp; try with_reducible rfl)
   try simp only [Act.put, List.setIfInBounds_toArray, List.set_cons_zero, List.set_cons_succ]
   refine Zd.pureD (i := 15) (d := some 80) (v := ?vq15x60) rfl rfl (by kernel_rfl) (by kernel_rfl) (by kernel_rfl) (by kernel_rfl) (by kernel_rfl) (fun _ _ _ h => h) (Or.inl ⟨by kernel_rfl, ?hyq15x60⟩) (.inr hi13) ?restq15x60
   case hyq15x60 => (intro w _; go_simp; try with_reducible rfl)
   try simp only [Act.put, List.setIfInBounds_toArray, List.set_cons_zero, List.set_cons_succ]
   refine Zd.pureD (i := 16) (d := some 81) (v := ?vq16x61) rfl rfl (by kernel_rfl) (by kernel_rfl) (by kernel_rfl) (by kernel_rfl) (by kernel_rfl) (fun _ _ _ h => h) (Or.inl ⟨by kernel_rfl, ?hyq16x61⟩) (.inr hi13) ?restq16x61
   case hyq16x61 => (intro w _; go_simp; try with_reducible rfl)
   try simp only [Act.put, List.setIfInBounds_toArray, List.set_cons_zero, List.set_cons_succ]
   refine Zd.takeD (i := 18) (d := some 83) (v := ?vq18x62) rfl rfl (by kernel_rfl) (by kernel_rfl) (by kernel_rfl) (by kernel_rfl) (by kernel_rfl) (fun _ _ _ h => h) (Or.inl ⟨by kernel_rfl, ?hyq18x62⟩) hi13 ?restq18x62
   case hyq18x62 => (intro w hSw; obtain ⟨ya, yb, yc⟩ := KC.out _ hSw; have yl := HL1.out _ hSw; go_simp; try with_reducible rfl)
   try simp only [Act.put, List.setIfInBounds_toArray, List.set_cons_zero, List.set_cons_succ]
   refine Zd.call (i := 17) (d := some 82) (by kernel_rfl) rfl rfl (by kernel_rfl) (by kernel_rfl) (K3.out _ hi13) ?_
   rintro e w117 ⟨rfl, hi17⟩
   refine ⟨_, rfl, hi17, ?_⟩
   try simp only [Act.put, List.setIfInBounds_toArray, List.set_cons_zero, List.set_cons_succ]
   refine Zd.pureD (i := 19) (d := some 84) (v := ?vq19x63) rfl rfl (by kernel_rfl) (by kernel_rfl) (by kernel_rfl) (by kernel_rfl) (by kernel_rfl) (fun _ _ _ h => h) (Or.inl ⟨by kernel_rfl, ?hyq19x63⟩) (.inr hi17) ?restq19x63
   case hyq19x63 => (intro w _; go_simp; try with_reducible rfl)
   try simp only [Act.put, List.setIfInBounds_toArray, List.set_cons_zero, List.set_cons_succ]
   refine Zd.pureD (i := 20) (d := some 85) (v := ?vq20x64) rfl rfl (by kernel_rfl) (by kernel_rfl) (by kernel_rfl) (by kernel_rfl) (by kernel_rfl) (fun _ _ _ h => h) (Or.inl ⟨by kernel_rfl, ?hyq20x64⟩) (.inr hi17) ?restq20x64
   case hyq20x64 => (intro w _; go_simp; try with_reducible rfl)
   try simp only [Act.put, List.setIfInBounds_toArray, List.set_cons_zero, List.set_cons_succ]
   refine Zd.pureD (i := 21) (d := some 86) (v := ?vq21x65) rfl rfl (by kernel_rfl) (by kernel_rfl) (by kernel_rfl) (by kernel_rfl) (by kernel_rfl) (fun _ _ _ h => h) (Or.inl ⟨by kernel_rfl, ?hyq21x65⟩) (.inr hi17) ?restq21x65
   case hyq21x65 => (intro w _; go_simp; try with_reducible rfl)
   try simp only [Act.put, List.setIfInBounds_toArray, List.set_cons_zero, List.set_cons_succ]
   refine Zd.pureD (i := 22) (d := some 87) (v := ?vq22x66) rfl rfl (by kernel_rfl) (by kernel_rfl) (by kernel_rfl) (by kernel_rfl) (by kernel_rfl) (fun _ _ _ h => h) (Or.inl ⟨by kernel_rfl, ?hyq22x66⟩) (.inr hi17) ?restq22x66
   case hyq22x66 => (intro w _; go_simp; try with_reducible rfl)
   try simp only [Act.put, List.setIfInBounds_toArray, List.set_cons_zero, List.set_cons_succ]
   refine Zd.pureD (i := 23) (d := some 88) (v := ?vq23x67) rfl rfl (by kernel_rfl) (by kernel_rfl) (by kernel_rfl) (by kernel_rfl) (by kernel_rfl) (fun _ _ _ h => h) (Or.inl ⟨by kernel_rfl, ?hyq23x67⟩) (.inr hi17) ?restq23x67
   case hyq23x67 => (intro w _; go_simp; try with_reducible rfl)
   try simp only [Act.put, List.setIfInBounds_toArray, List.set_cons_zero, List.set_cons_succ]
   refine Zd.pureD (i := 25) (d := some 90) (v := ?vq25x68) rfl rfl (by kernel_rfl) (by kernel_rfl) (by kernel_rfl) (by kernel_rfl) (by kernel_rfl) (fun _ _ _ h => h) (Or.inl ⟨by kernel_rfl, ?hyq25x68⟩) (.inr hi17) ?restq25x68
   case hyq25x68 => (intro w _; go_simp; try with_reducible rfl)
   try simp only [Act.put, List.setIfInBounds_toArray, List.set_cons_zero, List.set_cons_succ]
   refine Zd.call (i := 24) (d := some 89) (by kernel_rfl) rfl rfl (by kernel_rfl) (by kernel_rfl) (K4.out _ hi17) ?_
   rintro e w124 ⟨rfl, hi24⟩
   refine ⟨_, rfl, hi24, ?_⟩
   try simp only [Act.put, List.setIfInBounds_toArray, List.set_cons_zero, List.set_cons_succ]
   refine Zd.pureD (i := 26) (d := some 91) (v := ?vq26x69) rfl rfl (by kernel_rfl) (by kernel_rfl) (by kernel_rfl) (by kernel_rfl) (by kernel_rfl) (fun _ _ _ h => h) (Or.inl ⟨by kernel_rfl, ?hyq26x69⟩) (.inr hi24) ?restq26x69
   case hyq26x69 => (intro w _; go_simp; try with_reducible rfl)
   try simp only [Act.put, List.setIfInBounds_toArray, List.set_cons_zero, List.set_cons_succ]
   refine Zd.pureD (i := 27) (d := some 92) (v := ?vq27x70) rfl rfl (by kernel_rfl) (by kernel_rfl) (by kernel_rfl) (by kernel_rfl) (by kernel_rfl) (fun _ _ _ h => h) (Or.inl ⟨by kernel_rfl, ?hyq27x70⟩) (.inr hi24) ?restq27x70
   case hyq27x70 => (intro w _; go_simp; try with_reducible rfl)
   try simp only [Act.put, List.setIfInBounds_toArray, List.set_cons_zero, List.set_cons_succ]
   refine Zd.pureD (i := 28) (d := some 93) (v := ?vq28x71) rfl rfl (by kernel_rfl) (by kernel_rfl) (by kernel_rfl) (by kernel_rfl) (by kernel_rfl) (fun _ _ _ h => h) (Or.inl ⟨by kernel_rfl, ?hyq28x71⟩) (.inr hi24) ?restq28x71
   case hyq28x71 => (intro w _; go_simp; try with_reducible rfl)
   try simp only [Act.put, List.setIfInBounds_toArray, List.set_cons_zero, List.set_cons_succ]
   refine Zd.pureD (i := 29) (d := some 94) (v := ?vq29x72) rfl rfl (by kernel_rfl) (by kernel_rfl) (by kernel_rfl) (by kernel_rfl) (by kernel_rfl) (fun _ _ _ h => h) (Or.inl ⟨by kernel_rfl, ?hyq29x72⟩) (.inr hi24) ?restq29x72
   case hyq29x72 => (intro w _; go_simp; try with_reducible rfl)
   try simp only [Act.put, List.setIfInBounds_toArray, List.set_cons_zero, List.set_cons_succ]
   refine Zd.pureD (i := 30) (d := some 95) (v := ?vq30x73) rfl rfl (by kernel_rfl) (by kernel_rfl) (by kernel_rfl) (by kernel_rfl) (by kernel_rfl) (fun _ _ _ h => h) (Or.inl ⟨by kernel_rfl, ?hyq30x73⟩) (.inr hi24) ?restq30x73
   case hyq30x73 => (intro w _; go_simp; try with_reducible rfl)
   try simp only [Act.put, List.setIfInBounds_toArray, List.set_cons_zero, List.set_cons_succ]
   refine Zd.pureD (i := 32) (d := some 97) (v := ?vq32x74) rfl rfl (by kernel_rfl) (by kernel_rfl) (by kernel_rfl) (by kernel_rfl) (by kernel_rfl) (fun _ _ _ h => h) (Or.inl ⟨by kernel_rfl, ?hyq32x74⟩) (.inr hi24) ?restq32x74
   case hyq32x74 => (intro w _; go_simp; try with_reducible rfl)
   try simp only [Act.put, List.setIfInBounds_toArray, List.set_cons_zero, List.set_cons_succ]
   refine Zd.call (i := 31) (d := some 96) (by kernel_rfl) rfl rfl (by kernel_rfl) (by kernel_rfl) (K5.out _ hi24) ?_
   rintro e w131 ⟨rfl, hi31⟩
   refine ⟨_, rfl, hi31, ?_⟩
   try simp only [Act.put, List.setIfInBounds_toArray, List.set_cons_zero, List.set_cons_succ]
   refine Zd.pureD (i := 33) (d := some 98) (v := ?vq33x75) rfl rfl (by kernel_rfl) (by kernel_rfl) (by kernel_rfl) (by kernel_rfl) (by kernel_rfl) (fun _ _ _ h => h) (Or.inl ⟨by kernel_rfl, ?hyq33x75⟩) (.inr hi31) ?restq33x75
   case hyq33x75 => (intro w _; go_simp; try with_reducible rfl)
   try simp only [Act.put, List.setIfInBounds_toArray, List.set_cons_zero, List.set_cons_succ]
   refine Zd.pureD (i := 34) (d := some 99) (v := ?vq34x76) rfl rfl (by kernel_rfl) (by kernel_rfl) (by kernel_rfl) (by kernel_rfl) (by kernel_rfl) (fun _ _ _ h => h) (Or.inl ⟨by kernel_rfl, ?hyq34x76⟩) (.inr hi31) ?restq34x76
   case hyq34x76 => (intro w _; go_simp; try with_reducible rfl)
   try simp only [Act.put, List.setIfInBounds_toArray, List.set_cons_zero, List.set_cons_succ]
   refine Zd.pureD (i := 35) (d := some 100) (v := ?vq35x77) rfl rfl (by kernel_rfl) (by kernel_rfl) (by kernel_rfl) (by kernel_rfl) (by kernel_rfl) (fun _ _ _ h => h) (Or.inl ⟨by kernel_rfl, ?hyq35x77⟩) (.inr hi31) ?restq35x77
   case hyq35x77 => (intro w _; go_simp; try with_reducible rfl)
   try simp only [Act.put, List.setIfInBounds_toArray, List.set_cons_zero, List.set_cons_succ]
   refine Zd.pureD (i := 36) (d := some 101) (v := ?vq36x78) rfl rfl (by kernel_rfl) (by kernel_rfl) (by kernel_rfl) (by kernel_rfl) (by kernel_rfl) (fun _ _ _ h => h) (Or.inl ⟨by kernel_rfl, ?hyq36x78⟩) (.inr hi31) ?restq36x78
   case hyq36x78 => (intro w _; go_simp; try with_reducible rfl)
   try simp only [Act.put, List.setIfInBounds_toArray, List.set_cons_zero, List.set_cons_succ]
   refine Zd.call (i := 37) (d := some 102) (by kernel_rfl) rfl rfl (by kernel_rfl) (by kernel_rfl) (K6.out _ hi31) ?_
   rintro e w137 ⟨rfl, hi37⟩
   refine ⟨_, rfl, hi37, ?_⟩
   try simp only [Act.put, List.setIfInBounds_toArray, List.set_cons_zero, List.set_cons_succ]
   refine Zd.pureD (i := 38) (d := some 103) (v := ?vq38x79) rfl rfl (by kernel_rfl) (by kernel_rfl) (by kernel_rfl) (by kernel_rfl) (by kernel_rfl) (fun _ _ _ h => h) (Or.inl ⟨by kernel_rfl, ?hyq38x79⟩) (.inr hi37) ?restq38x79
   case hyq38x79 => (intro w _; go_simp; try with_reducible rfl)
   try simp only [Act.put, List.setIfInBounds_toArray, List.set_cons_zero, List.set_cons_succ]
   refine Zd.pureD (i := 39) (d := some 104) (v := ?vq39x80) rfl rfl (by kernel_rfl) (by kernel_rfl) (by kernel_rfl) (by kernel_rfl) (by kernel_rfl) (fun _ _ _ h => h) (Or.inl ⟨by kernel_rfl, ?hyq39x80⟩) (.inr hi37) ?restq39x80
   case hyq39x80 => (intro w _; go_simp; try with_reducible rfl)
   try simp only [Act.put, List.setIfInBounds_toArray, List.set_cons_zero, List.set_cons_succ]
   refine Zd.pureD (i := 40) (d := some 8) (v := ?vq40x81) rfl rfl (by kernel_rfl) (by kernel_rfl) (by kernel_rfl) (by kernel_rfl) (by kernel_rfl) (fun _ _ _ h => h) (Or.inl ⟨by kernel_rfl, ?hyq40x81⟩) (.inr hi37) ?restq40x81
   case hyq40x81 => (intro w _; go_simp; try with_reducible rfl)
   try simp only [Act.put, List.setIfInBounds_toArray, List.set_cons_zero, List.set_cons_succ]
   refine Zed.all (by kernel_rfl) ?_ _
   go_wp2_with fail
   go_ret
   exact ⟨rfl, KB.out _ hi37⟩
  ·go_simp
   have hi0 := KQ.out _ _ hi6 ((Below.refl _ _).alloc (Nat.le_refl _) (.cells #[.int .i64 0, .int .i64 1, .int .i64 2] 3))
   have HLb0 := lie_new w106 3 [.int .i64 0, .int .i64 1, .int .i64 2]
   refine hK.out _ _ (.inr hi0) ?_
   clear hK K
   try simp only [Act.put, List.setIfInBounds_toArray, List.set_cons_zero, List.set_cons_succ]
   refine Zd.call (i := 11) (d := some 76) (by kernel_rfl) rfl rfl (by kernel_rfl) (by kernel_rfl) (K2.out _ hi0) ?_
   rintro e wa ⟨Ax, cx, rfl, HLx, hi, hbx⟩
   refine ⟨_, rfl, hi, ?_⟩
   try simp only [Act.put, List.setIfInBounds_toArray, List.set_cons_zero, List.set_cons_succ]
   have HLb := HLb0.below hbx
   refine Zd.call (i := 13) (d := some 78) (by kernel_rfl) rfl rfl (by kernel_rfl) (by kernel_rfl) (KI.out 3 [0, 1, 2] _ Ax cx _ 3 rfl (by decide) HLx HLb) ?_
   rintro e w113 ⟨rfl, hb13⟩
   refine ⟨_, rfl, KQ.out _ _ hi hb13, ?_⟩
   try simp only [Act.put, List.setIfInBounds_toArray, List.set_cons_zero, List.set_cons_succ]
   have hi13 := KQ.out _ _ hi hb13
   refine Zd.pureD (i := 14) (d := some 79) (v := ?vq14x82) rfl rfl (by kernel_rfl) (by kernel_rfl) (by kernel_rfl) (by kernel_rfl) (by kernel_rfl) (fun _ _ _ h => h) (Or.inl ⟨by kernel_rfl, ?hyq14x82⟩) (.inr hi13) ?restq14x82
   case hyq14x82 => (intro w _; go_simp; try with_reducible rfl)
   try simp only [Act.put, List.setIfInBounds_toArray, List.set_cons_zero, List.set_cons_succ]
   refine Zd.pureD (i := 15) (d := some 80) (v := ?vq15x83) rfl rfl (by kernel_rfl) (by kernel_rfl) (by kernel_rfl) (by kernel_rfl) (by kernel_rfl) (fun _ _ _ h => h) (Or.inl ⟨by kernel_rfl, ?hyq15x83⟩) (.inr hi13) ?restq15x83
   case hyq15x83 => (intro w _; go_simp; try with_reducible rfl)
   try simp only [Act.put, List.setIfInBounds_toArray, List.set_cons_zero, List.set_cons_succ]
   refine Zd.pureD (i := 16) (d := some 81) (v := ?vq16x84) rfl rfl (by kernel_rfl) (by kernel_rfl) (by kernel_rfl) (by kernel_rfl) (by kernel_rfl) (fun _ _ _ h => h) (Or.inl ⟨by kernel_rfl, ?hyq16x84⟩) (.inr hi13) ?restq16x84
   case hyq16x84 => (intro w _; go_simp; try with_reducible rfl)
   try simp only [Act.put, List.setIfInBounds_toArray, List.set_cons_zero, List.set_cons_succ]
   refine Zd.takeD (i := 18) (d := some 83) (v := ?vq18x85) rfl rfl (by kernel_rfl) (by kernel_rfl) (by kernel_rfl) (by kernel_rfl) (by kernel_rfl) (fun _ _ _ h => h) (Or.inl ⟨by kernel_rfl, ?hyq18x85⟩) hi13 ?restq18x85
   case hyq18x85 => (intro w hSw; obtain ⟨ya, yb, yc⟩ := KC.out _ hSw; have yl := HL1.out _ hSw; go_simp; try with_reducible rfl)
   try simp only [Act.put, List.setIfInBounds_toArray, List.set_cons_zero, List.set_cons_succ]
   refine Zd.call (i := 17) (d := some 82) (by kernel_rfl) rfl rfl (by kernel_rfl) (by kernel_rfl) (K3.out _ hi13) ?_
   rintro e w117 ⟨rfl, hi17⟩
   refine ⟨_, rfl, hi17, ?_⟩
   try simp only [Act.put, List.setIfInBounds_toArray, List.set_cons_zero, List.set_cons_succ]
   refine Zd.pureD (i := 19) (d := some 84) (v := ?vq19x86) rfl rfl (by kernel_rfl) (by kernel_rfl) (by kernel_rfl) (by kernel_rfl) (by kernel_rfl) (fun _ _ _ h => h) (Or.inl ⟨by kernel_rfl, ?hyq19x86⟩) (.inr hi17) ?restq19x86
   case hyq19x86 => (intro w _; go_simp; try with_reducible rfl)
   try simp only [Act.put, List.setIfInBounds_toArray, List.set_cons_zero, List.set_cons_succ]
   refine Zd.pureD (i := 20) (d := some 85) (v := ?vq20x87) rfl rfl (by kernel_rfl) (by kernel_rfl) (by kernel_rfl) (by kernel_rfl) (by kernel_rfl) (fun _ _ _ h => h) (Or.inl ⟨by kernel_rfl, ?hyq20x87⟩) (.inr hi17) ?restq20x87
   case hyq20x87 => (intro w _; go_simp; try with_reducible rfl)
   try simp only [Act.put, List.setIfInBounds_toArray, List.set_cons_zero, List.set_cons_succ]
   refine Zd.pureD (i := 21) (d := some 86) (v := ?vq21x88) rfl rfl (by kernel_rfl) (by kernel_rfl) (by kernel_rfl) (by kernel_rfl) (by kernel_rfl) (fun _ _ _ h => h) (Or.inl ⟨by kernel_rfl, ?hyq21x88⟩) (.inr hi17) ?restq21x88
   case hyq21x88 => (intro w _; go_simp; try with_reducible rfl)
   try simp only [Act.put, List.setIfInBounds_toArray, List.set_cons_zero, List.set_cons_succ]
   refine Zd.pureD (i := 22) (d := some 87) (v := ?vq22x89) rfl rfl (by kernel_rfl) (by kernel_rfl) (by kernel_rfl) (by kernel_rfl) (by kernel_rfl) (fun _ _ _ h => h) (Or.inl ⟨by kernel_rfl, ?hyq22x89⟩) (.inr hi17) ?restq22x89
   case hyq22x89 => (intro w _; go_simp; try with_reducible rfl)
   try simp only [Act.put, List.setIfInBounds_toArray, List.set_cons_zero, List.set_cons_succ]
   refine Zd.pureD (i := 23) (d := some 88) (v := ?vq23x90) rfl rfl (by kernel_rfl) (by kernel_rfl) (by kernel_rfl) (by kernel_rfl) (by kernel_rfl) (fun _ _ _ h => h) (Or.inl ⟨by kernel_rfl, ?hyq23x90⟩) (.inr hi17) ?restq23x90
   case hyq23x90 => (intro w _; go_simp; try with_reducible rfl)
   try simp only [Act.put, List.setIfInBounds_toArray, List.set_cons_zero, List.set_cons_succ]
   refine Zd.pureD (i := 25) (d := some 90) (v := ?vq25x91) rfl rfl (by kernel_rfl) (by kernel_rfl) (by kernel_rfl) (by kernel_rfl) (by kernel_rfl) (fun _ _ _ h => h) (Or.inl ⟨by kernel_rfl, ?hyq25x91⟩) (.inr hi17) ?restq25x91
   case hyq25x91 => (intro w _; go_simp; try with_reducible rfl)
   try simp only [Act.put, List.setIfInBounds_toArray, List.set_cons_zero, List.set_cons_succ]
   refine Zd.call (i := 24) (d := some 89) (by kernel_rfl) rfl rfl (by kernel_rfl) (by kernel_rfl) (K4.out _ hi17) ?_
   rintro e w124 ⟨rfl, hi24⟩
   refine ⟨_, rfl, hi24, ?_⟩
   try simp only [Act.put, List.setIfInBounds_toArray, List.set_cons_zero, List.set_cons_succ]
   refine Zd.pureD (i := 26) (d := some 91) (v := ?vq26x92) rfl rfl (by kernel_rfl) (by kernel_rfl) (by kernel_rfl) (by kernel_rfl) (by kernel_rfl) (fun _ _ _ h => h) (Or.inl ⟨by kernel_rfl, ?hyq26x92⟩) (.inr hi24) ?restq26x92
   case hyq26x92 => (intro w _; go_simp; try with_reducible rfl)
   try simp only [Act.put, List.setIfInBounds_toArray, List.set_cons_zero, List.set_cons_succ]
   refine Zd.pureD (i := 27) (d := some 92) (v := ?vq27x93) rfl rfl (by kernel_rfl) (by kernel_rfl) (by kernel_rfl) (by kernel_rfl) (by kernel_rfl) (fun _ _ _ h => h) (Or.inl ⟨by kernel_rfl, ?hyq27x93⟩) (.inr hi24) ?restq27x93
   case hyq27x93 => (intro w _; go_simp; try with_reducible rfl)
   try simp only [Act.put, List.setIfInBounds_toArray, List.set_cons_zero, List.set_cons_succ]
   refine Zd.pureD (i := 28) (d := some 93) (v := ?vq28x94) rfl rfl (by kernel_rfl) (by kernel_rfl) (by kernel_rfl) (by kernel_rfl) (by kernel_rfl) (fun _ _ _ h => h) (Or.inl ⟨by kernel_rfl, ?hyq28x94⟩) (.inr hi24) ?restq28x94
   case hyq28x94 => (intro w _; go_simp; try with_reducible rfl)
   try simp only [Act.put, List.setIfInBounds_toArray, List.set_cons_zero, List.set_cons_succ]
   refine Zd.pureD (i := 29) (d := some 94) (v := ?vq29x95) rfl rfl (by kernel_rfl) (by kernel_rfl) (by kernel_rfl) (by kernel_rfl) (by kernel_rfl) (fun _ _ _ h => h) (Or.inl ⟨by kernel_rfl, ?hyq29x95⟩) (.inr hi24) ?restq29x95
   case hyq29x95 => (intro w _; go_simp; try with_reducible rfl)
   try simp only [Act.put, List.setIfInBounds_toArray, List.set_cons_zero, List.set_cons_succ]
   refine Zd.pureD (i := 30) (d := some 95) (v := ?vq30x96) rfl rfl (by kernel_rfl) (by kernel_rfl) (by kernel_rfl) (by kernel_rfl) (by kernel_rfl) (fun _ _ _ h => h) (Or.inl ⟨by kernel_rfl, ?hyq30x96⟩) (.inr hi24) ?restq30x96
   case hyq30x96 => (intro w _; go_simp; try with_reducible rfl)
   try simp only [Act.put, List.setIfInBounds_toArray, List.set_cons_zero, List.set_cons_succ]
   refine Zd.pureD (i := 32) (d := some 97) (v := ?vq32x97) rfl rfl (by kernel_rfl) (by kernel_rfl) (by kernel_rfl) (by kernel_rfl) (by kernel_rfl) (fun _ _ _ h => h) (Or.inl ⟨by kernel_rfl, ?hyq32x97⟩) (.inr hi24) ?restq32x97
   case hyq32x97 => (intro w _; go_simp; try with_reducible rfl)
   try simp only [Act.put, List.setIfInBounds_toArray, List.set_cons_zero, List.set_cons_succ]
   refine Zd.call (i := 31) (d := some 96) (by kernel_rfl) rfl rfl (by kernel_rfl) (by kernel_rfl) (K5.out _ hi24) ?_
   rintro e w131 ⟨rfl, hi31⟩
   refine ⟨_, rfl, hi31, ?_⟩
   try simp only [Act.put, List.setIfInBounds_toArray, List.set_cons_zero, List.set_cons_succ]
   refine Zd.pureD (i := 33) (d := some 98) (v := ?vq33x98) rfl rfl (by kernel_rfl) (by kernel_rfl) (by kernel_rfl) (by kernel_rfl) (by kernel_rfl) (fun _ _ _ h => h) (Or.inl ⟨by kernel_rfl, ?hyq33x98⟩) (.inr hi31) ?restq33x98
   case hyq33x98 => (intro w _; go_simp; try with_reducible rfl)
   try simp only [Act.put, List.setIfInBounds_toArray, List.set_cons_zero, List.set_cons_succ]
   refine Zd.pureD (i := 34) (d := some 99) (v := ?vq34x99) rfl rfl (by kernel_rfl) (by kernel_rfl) (by kernel_rfl) (by kernel_rfl) (by kernel_rfl) (fun _ _ _ h => h) (Or.inl ⟨by kernel_rfl, ?hyq34x99⟩) (.inr hi31) ?restq34x99
   case hyq34x99 => (intro w _; go_simp; try with_reducible rfl)
   try simp only [Act.put, List.setIfInBounds_toArray, List.set_cons_zero, List.set_cons_succ]
   refine Zd.pureD (i := 35) (d := some 100) (v := ?vq35x100) rfl rfl (by kernel_rfl) (by kernel_rfl) (by kernel_rfl) (by kernel_rfl) (by kernel_rfl) (fun _ _ _ h => h) (Or.inl ⟨by kernel_rfl, ?hyq35x100⟩) (.inr hi31) ?restq35x100
   case hyq35x100 => (intro w _; go_simp; try with_reducible rfl)
   try simp only [Act.put, List.setIfInBounds_toArray, List.set_cons_zero, List.set_cons_succ]
   refine Zd.pureD (i := 36) (d := some 101) (v := ?vq36x101) rfl rfl (by kernel_rfl) (by kernel_rfl) (by kernel_rfl) (by kernel_rfl) (by kernel_rfl) (fun _ _ _ h => h) (Or.inl ⟨by kernel_rfl, ?hyq36x101⟩) (.inr hi31) ?restq36x101
   case hyq36x101 => (intro w _; go_simp; try with_reducible rfl)
   try simp only [Act.put, List.setIfInBounds_toArray, List.set_cons_zero, List.set_cons_succ]
   refine Zd.call (i := 37) (d := some 102) (by kernel_rfl) rfl rfl (by kernel_rfl) (by kernel_rfl) (K6.out _ hi31) ?_
   rintro e w137 ⟨rfl, hi37⟩
   refine ⟨_, rfl, hi37, ?_⟩
   try simp only [Act.put, List.setIfInBounds_toArray, List.set_cons_zero, List.set_cons_succ]
   refine Zd.pureD (i := 38) (d := some 103) (v := ?vq38x102) rfl rfl (by kernel_rfl) (by kernel_rfl) (by kernel_rfl) (by kernel_rfl) (by kernel_rfl) (fun _ _ _ h => h) (Or.inl ⟨by kernel_rfl, ?hyq38x102⟩) (.inr hi37) ?restq38x102
   case hyq38x102 => (intro w _; go_simp; try with_reducible rfl)
   try simp only [Act.put, List.setIfInBounds_toArray, List.set_cons_zero, List.set_cons_succ]
   refine Zd.pureD (i := 39) (d := some 104) (v := ?vq39x103) rfl rfl (by kernel_rfl) (by kernel_rfl) (by kernel_rfl) (by kernel_rfl) (by kernel_rfl) (fun _ _ _ h => h) (Or.inl ⟨by kernel_rfl, ?hyq39x103⟩) (.inr hi37) ?restq39x103
   case hyq39x103 => (intro w _; go_simp; try with_reducible rfl)
   try simp only [Act.put, List.setIfInBounds_toArray, List.set_cons_zero, List.set_cons_succ]
   refine Zd.pureD (i := 40) (d := some 8) (v := ?vq40x104) rfl rfl (by kernel_rfl) (by kernel_rfl) (by kernel_rfl) (by kernel_rfl) (by kernel_rfl) (fun _ _ _ h => h) (Or.inl ⟨by kernel_rfl, ?hyq40x104⟩) (.inr hi37) ?restq40x104
   case hyq40x104 => (intro w _; go_simp; try with_reducible rfl)
   try simp only [Act.put, List.setIfInBounds_toArray, List.set_cons_zero, List.set_cons_succ]
   refine Zed.all (by kernel_rfl) ?_ _
   go_wp2_with fail
   go_ret
   exact ⟨rfl, KB.out _ hi37⟩
end Go.Proofs.Ytdhhkancbgealaa
