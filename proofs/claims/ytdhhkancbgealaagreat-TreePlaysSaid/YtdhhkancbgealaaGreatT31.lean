import Derived.Test.YtdhhkancbgealaaGreatT28
import Derived.Test.YtdhhkancbgealaaGreatT25
import Derived.Test.YtdhhkancbgealaaGreatT29
import Derived.Test.YtdhhkancbgealaaGreatT00
import Derived.Test.YtdhhkancbgealaaGreatT30
section
namespace Go.Proofs.YtdhhkancbgealaaGreat
open Go.RowKit Go.Shelf
open Lx
set_option linter.unusedVariables false
set_option linter.unusedSimpArgs false
set_option maxRecDepth 100000
namespace Tr
def awS : Sm.S := ⟨2, 0, [0], [[0, 1]], [], [], []⟩
def awP : Nm.Plan := Nm.plan (Sm.gram awS)
def aw1 : List Nd := (leaf 6 [] ⟨1, 0, 1⟩).L
def aw2 : List Nd := (leaf 6 aw1 ⟨2, 1, 2⟩).L
def aw3 : List Nd := (node 6 aw2 1 4 [0, 1]).L
def aw4 : List Nd := (leaf 6 aw3 ⟨3, 0, 0⟩).L
theorem aw_a : (leaf 6 [] ⟨1, 0, 1⟩).n = 0 ∧ (leaf 6 [] ⟨1, 0, 1⟩).e = 0 := by decide +kernel
theorem aw_b : (leaf 6 aw1 ⟨2, 1, 2⟩).n = 1 ∧ (leaf 6 aw1 ⟨2, 1, 2⟩).e = 0 := by decide +kernel
theorem aw_c : (node 6 aw2 1 4 [0, 1]).n = 2 ∧ (node 6 aw2 1 4 [0, 1]).e = 0 := by decide +kernel
theorem aw_d : (node 6 aw3 1 4 [0]).n = 0 ∧ (node 6 aw3 1 4 [0]).e = 15 ∧ (node 6 aw3 1 4 [0]).L = aw3 := ⟨by decide +kernel, by decide +kernel, rfl⟩
theorem aw_f : (leaf 6 aw3 ⟨3, 0, 0⟩).n = 3 ∧ (leaf 6 aw3 ⟨3, 0, 0⟩).e = 0 := by decide +kernel
theorem aw_cost : cost aw4 = 6 := by decide +kernel
theorem aw_show : show_ awP aw4 2 = [40, 83, 32, 97, 32, 98, 41] := by decide +kernel
theorem aw_right : right awP aw4 2 = true := by decide +kernel
theorem aw_terms : awP.terms.length ≤ 1000000 ∧ awP.vars.length ≤ 1000000 ∧ awP.rules.length ≤ 1000000 := by decide +kernel
theorem aw_names : (∀ n ∈ awP.terms, n.length ≤ 1000) ∧ (∀ n ∈ awP.vars, n.length ≤ 1000) := by decide +kernel
theorem aw_len : aw4.length = 4 := by decide +kernel
theorem aw_good : Good aw4 := good_leaf (good_node (good_leaf (good_leaf good_nil 6 _) 6 _) 6 _ _ _) 6 _
end Tr
theorem small_names {P : Nm.Plan} (h1 : ∀ n ∈ P.terms, n.length ≤ 1000) (h2 : ∀ n ∈ P.vars, n.length ≤ 1000) (s : Int) : (Nm.nameAt P.terms P.vars s).length ≤ 1000 := by
 have g : ∀ (l : List Rd.Name) (k : Nat), (∀ n ∈ l, n.length ≤ 1000) → (l.getD k []).length ≤ 1000 := fun l k h => by
  rw [List.getD_eq_getElem?_getD]
  cases hk : l[k]? with
  | none => simp
  | some x => exact h x (List.mem_of_getElem? hk)
 unfold Nm.nameAt
 split
 ·simp
 ·split
  ·decide
  ·split
   ·exact g _ _ h1
   ·exact g _ _ h2
theorem lie_new (w : World) (t : TypeId) (xs : List Value) : Lie (w.alloc (.cells xs.toArray t)) t (some ⟨w.heap.size, 0, none⟩) xs :=
 ⟨fun _ => ⟨w.heap.size, 0, xs.toArray, rfl, At.new _ _ _, fun j u hu => by simpa using hu⟩⟩
structure AwI (w w' : World) (B tg g mb bp : Nat) (c : Array Value) (l : Int) (P : Nm.Plan) (L : List Tr.Nd) : Prop where
 tree : ∃ m S, TreeIs w' B tg g mb l m S ∧ nds S = L
 plan : PlanR w' (.agg c) P
 box : At w' bp 34 c
 below : Below w.heap.size w w'
 low : bp < B ∧ w.heap.size ≤ B ∧ B ≤ w'.heap.size
section
variable {w w1 w2 : World} {B tg g mb bp : Nat} {c : Array Value} {l : Int} {P : Nm.Plan} {L L' : List Tr.Nd}
theorem AwI.done (h : AwI w w1 B tg g mb bp c l P L) (hd : Done w1 w2 B tg g mb l L') : AwI w w2 B tg g mb bp c l P L' :=
 ⟨hd.tree, h.plan.spares hd.spares (by decide) (by decide) (by decide), h.box.spares hd.spares (by decide), h.below.trans (hd.below.mono h.low.2.1), h.low.1, h.low.2.1, Nat.le_trans h.low.2.2 (by have := hd.spares.size; exact this)⟩
theorem AwI.quiet (h : AwI w w1 B tg g mb bp c l P L) (hb : Below w1.heap.size w1 w2) : AwI w w2 B tg g mb bp c l P L := by
 obtain ⟨m, S, h1, h2⟩ := h.tree
 exact ⟨⟨m, S, h1.below hb, h2⟩, h.plan.below hb, h.box.below hb h.box.lt, h.below.trans (hb.mono h.below.size), h.low.1, h.low.2.1, Nat.le_trans h.low.2.2 hb.size⟩
theorem AwI.alloc (h : AwI w w1 B tg g mb bp c l P L) (o : Obj) : AwI w (w1.alloc o) B tg g mb bp c l P L := h.quiet ((Below.refl _ _).alloc (Nat.le_refl _) _)
theorem AwI.leaf (h : AwI w w1 B tg g mb bp c l P L) (x : Tr.Tok) : Calls Tryz.prog 36 #[.pointer (some ⟨tg, 0, none⟩), .agg #[.int .i64 x.t, .int .i64 x.a, .int .i64 x.b]] w1 fun e w' => e = .returned (.tuple #[.int .i64 (Tr.leaf l L x).n, .int .i64 (Tr.leaf l L x).e]) ∧ AwI w w' B tg g mb bp c l P (Tr.leaf l L x).L := by
 obtain ⟨m, S, h1, rfl⟩ := h.tree
 refine (tleafP_any x w1 B tg g mb l m S h1 h.low.2.2).mono ?_
 rintro e w' ⟨rfl, hd⟩
 exact ⟨rfl, h.done hd⟩
theorem AwI.node (h : AwI w w1 B tg g mb bp c l P L) (rule sym : Int) (A : Option Addr) (n cp : Nat) (ks : List Int) (hl : ks.length = n) (hL : Lie w1 3 A (vals ks)) (hn : n ≤ 1000000) : Calls Tryz.prog 37 #[.pointer (some ⟨tg, 0, none⟩), .int .i64 rule, .int .i64 sym, .slice A n cp] w1 fun e w' => e = .returned (.tuple #[.int .i64 (Tr.node l L rule sym ks).n, .int .i64 (Tr.node l L rule sym ks).e]) ∧ AwI w w' B tg g mb bp c l P (Tr.node l L rule sym ks).L := by
 obtain ⟨m, S, h1, rfl⟩ := h.tree
 refine (tnode_any rule sym A n cp ks w1 B tg g mb l m S h1 h.low.2.2 hl hL hn).mono ?_
 rintro e w' ⟨rfl, hd⟩
 exact ⟨rfl, h.done hd⟩
structure PlanB (P : Nm.Plan) : Prop where
 terms : P.terms.length ≤ 1000000
 vars : P.vars.length ≤ 1000000
 rules : P.rules.length ≤ 1000000
 tnames : ∀ n ∈ P.terms, n.length ≤ 1000
 vnames : ∀ n ∈ P.vars, n.length ≤ 1000
theorem AwI.show (h : AwI w w1 B tg g mb bp c l P L) (hb : PlanB P) (hg : Tr.Good L) (hn : L.length ≤ 300000) (i : Int) : Calls Tryz.prog 33 #[.pointer (some ⟨tg, 0, none⟩), .agg c, .int .i64 i] w1 fun e w' => e = .returned (.string (str (Tr.show_ P L i))) ∧ AwI w w' B tg g mb bp c l P L := by
 obtain ⟨m, S, h1, rfl⟩ := h.tree
 have := hg.bel_len i
 refine (tshow_any (.agg c) P i w1 B tg g mb l m S h1 h.plan hg.down (by omega) hb.terms hb.vars (small_names hb.tnames hb.vnames)).mono ?_
 rintro e w' ⟨rfl, hd⟩
 exact ⟨rfl, h.quiet hd⟩
theorem AwI.right (h : AwI w w1 B tg g mb bp c l P L) (hb : PlanB P) (hg : Tr.Good L) (hn : L.length ≤ 300000) (i : Int) : Calls Tryz.prog 31 #[.pointer (some ⟨tg, 0, none⟩), .agg c, .int .i64 i] w1 fun e w' => e = .returned (.bool (Tr.right P L i)) ∧ AwI w w' B tg g mb bp c l P L := by
 obtain ⟨m, S, h1, rfl⟩ := h.tree
 have := hg.bel_len i
 refine (tright_any (.agg c) P i w1 B tg g mb l m S h1 h.plan hg.down (by omega) hb.terms hb.rules).mono ?_
 rintro e w' ⟨rfl, hd⟩
 exact ⟨rfl, h.quiet hd⟩
theorem AwI.cells (h : AwI w w1 B tg g mb bp c l P L) : Calls Tryz.prog 16 #[.pointer (some ⟨tg, 0, none⟩)] w1 fun e w' => e = .returned (.int .i64 (Tr.cost L)) ∧ AwI w w' B tg g mb bp c l P L := by
 obtain ⟨m, S, h1, rfl⟩ := h.tree
 refine (tcells_any w1 B tg g mb l m S h1).mono ?_
 rintro e w' ⟨rfl, rfl⟩
 exact ⟨rfl, h⟩
end
set_option maxHeartbeats 8000000 in
theorem awake18_any (w : World) : Calls Tryz.prog 6 #[] w fun e w' => e = .returned (.bool true) ∧ Below w.heap.size w w' := by
 obtain ⟨W, hW⟩ : ∃ W, ((w.alloc (.cells #[.int .u8 0] 5)).alloc (.cells #[.int .u8 0, .int .u8 1] 5)).alloc (.cells #[.slice (some ⟨w.heap.size + 1, 0, none⟩) 2 2] 22) = W := ⟨_, rfl⟩
 have hb : Below w.heap.size w W := by
  rw [← hW]
  exact (((Below.refl w.heap.size w).alloc (Nat.le_refl _) _).alloc (by simp) _).alloc (by simp; omega) _
 have hsz : W.heap.size = w.heap.size + 3 := by rw [← hW]; simp
 have hC : SmallC W W.heap.size (.agg #[.int .u8 2, .int .u8 0, .slice (some ⟨w.heap.size, 0, none⟩) 1 1, .slice (some ⟨w.heap.size + 2, 0, none⟩) 1 1, .slice none 0 0, .slice none 0 0, .slice none 0 0]) Tr.awS := by
  have k1 : Lie W 5 (some ⟨w.heap.size, 0, none⟩) [.int .u8 0] := by rw [← hW]; exact ((lie_new w _ [.int .u8 0]).alloc _).alloc _
  have k2 : Lie W 5 (some ⟨w.heap.size + 1, 0, none⟩) [.int .u8 0, .int .u8 1] := by
   have := lie_new (w.alloc (.cells #[.int .u8 0] 5)) 5 [.int .u8 0, .int .u8 1]
   rw [World.size_alloc] at this
   rw [← hW]; exact this.alloc _
  have k3 : Lie W 22 (some ⟨w.heap.size + 2, 0, none⟩) [.slice (some ⟨w.heap.size + 1, 0, none⟩) 2 2] := by
   have := lie_new ((w.alloc (.cells #[.int .u8 0] 5)).alloc (.cells #[.int .u8 0, .int .u8 1] 5)) 22 [.slice (some ⟨w.heap.size + 1, 0, none⟩) 2 2]
   rw [World.size_alloc, World.size_alloc] at this
   rw [← hW]; exact this
  exact ⟨_, 1, _, 1, none, 0, none, 0, none, 0, [([0, 1], .slice (some ⟨w.heap.size + 1, 0, none⟩) 2 2)], rfl, k1.cl, k3.cl, rfl, fun p hp => by
   simp at hp; subst hp; exact ⟨_, 2, rfl, k2.cl⟩, Cl.nil _ _ _, Cl.nil _ _ _, Cl.nil _ _ _⟩
 have HPL := Lib.hid (splan_any _ Tr.awS W.heap.size W hC (Nat.le_refl _) ⟨by decide, by decide, by decide, by decide, by decide, by decide, by decide, by decide, by decide, by decide, by decide, by decide⟩ (by decide) (by decide) (by decide))
 have HW := Lib.hid hW
 have HB := Lib.hid hb
 clear hC hW hb
 go_enter Tryz.func6, Tryz.ntmps6
 go_wp2_with fail
 rw [HW.out]
 refine HPL.out.mono ?_
 rintro e w1 ⟨⟨pv, rfl, hpl⟩, hb1⟩
 obtain ⟨PP, hPP⟩ : ∃ P, Tr.awP = P := ⟨_, rfl⟩
 rw [show Nm.plan (Sm.gram Tr.awS) = PP from hPP] at hpl
 have HPP := Lib.hid hPP
 have hpr := hpl.planR
 obtain ⟨P1, c1, P2, c2, P3, c3, P4, c4, P5, c5, P6, c6, rfl, _⟩ := hpr.ex
 generalize hn1 : PP.terms.length = n1 at hpr
 generalize hn2 : PP.vars.length = n2 at hpr
 generalize hn3 : PP.rules.length = n3 at hpr
 generalize hn4 : PP.levels.length = n4 at hpr
 generalize hn5 : PP.assocs.length = n5 at hpr
 generalize hn6 : PP.acts.length = n6 at hpr
 obtain ⟨W1, hW1⟩ : ∃ W, w1.alloc (.cells #[.slice P1 n1 c1, .slice P2 n2 c2, .slice P3 n3 c3, .slice P4 n4 c4, .slice P5 n5 c5, .slice P6 n6 c6] 34) = W := ⟨_, rfl⟩
 have hb2 : Below w1.heap.size w1 W1 := by rw [← hW1]; exact (Below.refl w1.heap.size w1).alloc (Nat.le_refl _) _
 have hz1 : W1.heap.size = w1.heap.size + 1 := by rw [← hW1]; simp
 have hat : At W1 w1.heap.size 34 #[.slice P1 n1 c1, .slice P2 n2 c2, .slice P3 n3 c3, .slice P4 n4 c4, .slice P5 n5 c5, .slice P6 n6 c6] := by rw [← hW1]; exact At.new _ _ _
 have hbW := HB.out.trans (hb1.mono HB.out.size)
 have HBW := Lib.hid (hbW.trans (hb2.mono hbW.size))
 have HPR := Lib.hid (hpr.below hb2)
 have HAT := Lib.hid hat
 have HW1 := Lib.hid hW1
 have HZ := Lib.hid hz1
 have HZ0 := Lib.hid hbW.size
 clear hpl hpr hb1 HPL hn1 hn2 hn3 hn4 hn5 hn6 hat hW1 hb2 hz1 hbW hPP HB HW
 go_wp2_with fail
 rw [HW1.out]
 go_wp2_with fail
 refine (new_any 6 _).mono ?_
 rintro e w2 ⟨rfl, hw2⟩
 have hM : At w2 W1.heap.size 87 #[.int .i64 6, .int .i64 0, .int .i64 0] := by
  rw [← hw2, show hld 6 = 6 from rfl]; exact At.new _ _ _
 have hb2 : Below W1.heap.size W1 w2 := by rw [← hw2]; exact (Below.refl _ _).alloc (Nat.le_refl _) _
 have HNW := Lib.hid (tnew_any W1.heap.size W1.heap.size 6 0 w2 hM (by omega) hb2.size (Nat.le_refl _))
 have HBW2 := Lib.hid hb2
 clear hw2 hM hb2
 go_wp2_with fail
 refine HNW.out.mono ?_
 rintro e w3 ⟨tg, g, rfl, hT, htg, hb3⟩
 have A0 := Lib.hid (show AwI w w3 W1.heap.size tg g W1.heap.size w1.heap.size _ 6 PP [] from by
  have hb3' := HBW2.out.trans (hb3.mono HBW2.out.size)
  exact ⟨⟨0, [], hT, rfl⟩, HPR.out.below hb3', HAT.out.below hb3' HAT.out.lt, HBW.out.trans (hb3'.mono HBW.out.size), by have := HZ.out; omega, by have := HZ.out; have := HZ0.out; omega, hb3'.size⟩)
 have HTG := Lib.hid htg
 clear hT htg hb3 HNW HBW2 HPR HAT HBW HW1
 go_wp2_with fail
 refine (A0.out.leaf ⟨1, 0, 1⟩).mono ?_
 rw [Tr.aw_a.1, Tr.aw_a.2]
 rintro e w4 ⟨rfl, a1⟩
 have A1 := Lib.hid (show AwI w w4 W1.heap.size tg g W1.heap.size w1.heap.size _ 6 PP Tr.aw1 from a1)
 clear a1 A0
 go_wp2_with fail
 refine (A1.out.leaf ⟨2, 1, 2⟩).mono ?_
 rw [Tr.aw_b.1, Tr.aw_b.2]
 rintro e w5 ⟨rfl, a2⟩
 have A2 := Lib.hid (show AwI w w5 W1.heap.size tg g W1.heap.size w1.heap.size _ 6 PP Tr.aw2 from a2)
 clear a2 A1
 go_wp2_with fail
 refine ((A2.out.alloc _).node 1 4 _ _ _ [0, 1] rfl (lie_new _ _ _) (by decide)).mono ?_
 rw [Tr.aw_c.1, Tr.aw_c.2]
 rintro e w6 ⟨rfl, a3⟩
 have A3 := Lib.hid (show AwI w w6 W1.heap.size tg g W1.heap.size w1.heap.size _ 6 PP Tr.aw3 from a3)
 clear a3 A2
 go_wp2_with fail
 refine ((A3.out.alloc _).node 1 4 _ _ _ [0] rfl (lie_new _ _ _) (by decide)).mono ?_
 rw [Tr.aw_d.1, Tr.aw_d.2.1, Tr.aw_d.2.2]
 rintro e w7 ⟨rfl, a4⟩
 have A4 := Lib.hid a4
 clear a4 A3
 go_wp2_with fail
 refine (A4.out.leaf ⟨3, 0, 0⟩).mono ?_
 rw [Tr.aw_f.1, Tr.aw_f.2]
 rintro e w8 ⟨rfl, a5⟩
 have A5 := Lib.hid (show AwI w w8 W1.heap.size tg g W1.heap.size w1.heap.size _ 6 PP Tr.aw4 from a5)
 clear a5 A4
 have hPB : PlanB PP := by
  rw [← HPP.out]
  exact ⟨Tr.aw_terms.1, Tr.aw_terms.2.1, Tr.aw_terms.2.2, Tr.aw_names.1, Tr.aw_names.2⟩
 have hln : Tr.aw4.length ≤ 300000 := by rw [Tr.aw_len]; decide
 have c0 := A5.out.box.cell 0
 have c1' := A5.out.box.cell 1
 have c2' := A5.out.box.cell 2
 have c3' := A5.out.box.cell 3
 have c4' := A5.out.box.cell 4
 have c5' := A5.out.box.cell 5
 simp only [List.getElem?_toArray, List.getElem?_cons_zero, List.getElem?_cons_succ] at c0 c1' c2' c3' c4' c5'
 have HSH := Lib.hid (A5.out.show hPB Tr.aw_good hln 2)
 have hss : str (Tr.show_ PP Tr.aw4 2) = ⟨#[40, 83, 32, 97, 32, 98, 41]⟩ := by rw [← HPP.out, Tr.aw_show]; rfl
 rw [hss] at HSH
 have HPB := Lib.hid hPB
 have HLN := Lib.hid hln
 clear hss hPB hln
 go_wp2_with fail
 refine HSH.out.mono ?_
 rintro e w9 ⟨rfl, a6⟩
 have A6 := Lib.hid a6
 clear a6 HSH A5 c0 c1' c2' c3' c4' c5'
 go_wp2_with fail
 refine A6.out.cells.mono ?_
 rw [Tr.aw_cost]
 rintro e w10 ⟨rfl, a7⟩
 have A7 := Lib.hid a7
 have c0 := a7.box.cell 0
 have c1' := a7.box.cell 1
 have c2' := a7.box.cell 2
 have c3' := a7.box.cell 3
 have c4' := a7.box.cell 4
 have c5' := a7.box.cell 5
 simp only [List.getElem?_toArray, List.getElem?_cons_zero, List.getElem?_cons_succ] at c0 c1' c2' c3' c4' c5'
 have HR := Lib.hid (a7.right HPB.out Tr.aw_good HLN.out 2)
 rw [← HPP.out, Tr.aw_right, HPP.out] at HR
 clear a7 A6
 go_wp2_with fail
 refine HR.out.mono ?_
 rintro e w11 ⟨rfl, a8⟩
 have A8 := Lib.hid a8
 clear a8 HR A7 c0 c1' c2' c3' c4' c5'
 go_wp2_with fail
 go_ret
 exact ⟨rfl, A8.out.below⟩
end Go.Proofs.YtdhhkancbgealaaGreat
end
section
namespace Go.Proofs.YtdhhkancbgealaaGreat
open Go.RowKit Go.Shelf
open Lx
set_option linter.unusedVariables false
set_option linter.unusedSimpArgs false
set_option maxRecDepth 100000
set_option maxHeartbeats 4000000 in
theorem intsL_any (A1 A2 : Option Addr) (n1 n2 c1 c2 : Nat) (l1 l2 : List Int) (w : World) (hn1 : l1.length = n1) (hn2 : l2.length = n2) (h1 : Lie w 3 A1 (vals l1)) (h2 : Lie w 3 A2 (vals l2)) (hN : n1 ≤ 1000000000) :
  Calls Tryz.prog 24 #[.slice A1 n1 c1, .slice A2 n2 c2] w fun e w' => e = .returned (.bool (decide (l1 = l2))) ∧ Below w.heap.size w w' := by
 have H1 := Lib.hid h1
 have H2 := Lib.hid h2
 have HN1 := Lib.hid hn1
 have HN2 := Lib.hid hn2
 obtain ⟨Q, hQ⟩ : ∃ Q : Bool, decide (l1 = l2) = Q := ⟨_, rfl⟩
 rw [hQ]
 have HQ := Lib.hid hQ
 clear h1 h2 hn1 hn2 hQ
 by_cases hne : n1 = n2
 ·subst hne
  go_enter Tryz.func24, Tryz.ntmps24
  go_wp2_with fail
  go_loopw [5] (fun i wr => ∃ j : Nat, j ≤ n1 ∧ i = .int .i64 (j : Int) ∧ l1.take j = l2.take j ∧ ∃ m, wr = w.drewN m) (fun i _ => n1 - (intOf i).toNat)
  case atStart => exact ⟨0, by omega, rfl, by simp, 0, rfl⟩
  case round =>
   obtain ⟨j, hj, rfl, he, m, rfl⟩ := hrel
   have HE := Lib.hid he
   clear he
   by_cases hlt : j < n1
   ·obtain ⟨x, hx⟩ : ∃ x, l1[j]? = some x := ⟨_, List.getElem?_eq_getElem (by rw [HN1.out]; exact hlt)⟩
    obtain ⟨y, hy⟩ : ∃ y, l2[j]? = some y := ⟨_, List.getElem?_eq_getElem (by rw [HN2.out]; exact hlt)⟩
    obtain ⟨b1, o1, rfl, hbl1, e1⟩ := lieW_at H1.out hx
    obtain ⟨b2, o2, rfl, hbl2, e2⟩ := lieW_at H2.out hy
    have HX := Lib.hid hx
    have HY := Lib.hid hy
    have hji : (j : Int) < (n1 : Int) := by omega
    have hj0 : (0 : Int) ≤ (j : Int) := by omega
    clear hx hy
    cases hb : (x != y)
    ·go_wp2_with fail
     go_quiet (fail)
     go_wp2_with fail
     go_roundw
     case rel =>
      refine ⟨j + 1, by omega, by go_num, ?_, _, rfl⟩
      rw [take_snocT HX.out, take_snocT HY.out, HE.out, show x = y by simpa using hb]
     case measure => simp [intOf]; omega
    ·have hq : Q = false := by
      rw [← HQ.out]
      refine decide_eq_false fun e => ?_
      have h5 : l1[j]? = l2[j]? := by rw [e]
      rw [HX.out, HY.out] at h5
      simp at h5 hb; exact hb h5
     subst hq
     go_wp2_with fail
     go_quiet (fail)
     go_wp2_with fail
     go_ret
     exact ⟨rfl, below_drewN (below_drewN (Below.refl _ _) _) _⟩
   ·obtain rfl : j = n1 := by omega
    have hq : Q = true := by
     rw [← HQ.out]
     have h5 := HE.out
     rw [List.take_of_length_le (by rw [HN1.out]; exact Nat.le_refl _), List.take_of_length_le (by rw [HN2.out]; exact Nat.le_refl _)] at h5
     exact decide_eq_true h5
    subst hq
    clear hlt
    go_wp2_with fail
    go_ret
    exact ⟨rfl, below_drewN (Below.refl _ _) _⟩
 ·have hq : Q = false := by
   rw [← HQ.out]
   refine decide_eq_false fun e => hne ?_
   rw [← HN1.out, ← HN2.out, ← e]
  subst hq
  have hnI : ((n1 : Int) != (n2 : Int)) = true := by simp; omega
  clear hne
  go_enter Tryz.func24, Tryz.ntmps24
  go_wp2_with fail
  go_ret
  exact ⟨rfl, Below.refl _ _⟩
end Go.Proofs.YtdhhkancbgealaaGreat
end
