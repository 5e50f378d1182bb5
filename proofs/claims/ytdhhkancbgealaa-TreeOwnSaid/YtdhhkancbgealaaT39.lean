import Derived.Test.YtdhhkancbgealaaT18
import Derived.Deep.RegionWith
import Derived.Deep.LoopGhost
namespace Go.Proofs.Ytdhhkancbgealaa
open Go.RowKit
open Lx
set_option linter.unusedVariables false
set_option linter.unusedSimpArgs false
set_option maxRecDepth 100000
theorem takeT_any {α : Type} {l : List α} {j : Nat} {x : α} (h : l[j]? = some x) (f : α → Bool) : (l.take (j + 1)).any f = ((l.take j).any f || f x) := by
 rw [List.take_add_one, h]; simp [List.any_append]
theorem lie_at {w : World} {t : TypeId} {A : Option Addr} {l : List Int} {j : Nat} {x : Int} (h : Lie w t A (vals l)) (hj : l[j]? = some x) : ∃ b o, A = some ⟨b, o, none⟩ ∧ b < w.heap.size ∧ w.cell? ⟨b, o + j, none⟩ = some (.int .i64 x) := by
 obtain ⟨b, o, e, hlt, hc⟩ := h.cell (by intro e; have := vals_get hj; rw [e] at this; simp at this)
 exact ⟨b, o, e, hlt, hc j _ (vals_get hj)⟩
set_option maxHeartbeats 4000000 in
theorem twrong_any (A : Option Addr) (n c : Nat) (ks : List Int) (w : World) (B tg g mb : Nat) (l m : Int) (S : List Sl) (h : TreeIs w B tg g mb l m S) (hl : ks.length = n) (hL : Lie w 3 A (vals ks)) (hn : n ≤ 1000000) :
  Calls Try.prog 48 #[.pointer (some ⟨tg, 0, none⟩), .slice A n c] w fun e w' => e = .returned (.int .i64 (Tr.wrong (nds S) ks)) ∧ Below w.heap.size w w' := by
 have HL := Lib.hid hL
 have HLEN := Lib.hid hl
 have HHAS := Lib.hid (fun (i : Int) (w' : World) (hb : Below w.heap.size w w') => thas_any i w' B tg g mb l m S (h.below hb))
 have HAT := Lib.hid (fun (i : Int) (w' : World) (hb : Below w.heap.size w w') => tat_parts i w' B tg g mb l m S (h.below hb))
 have HTW := Lib.hid (fun (w' : World) (hb : Below w.heap.size w w') => twice_any A n c ks w' hl (hL.below hb) hn)
 obtain ⟨L, hLn⟩ : ∃ L, nds S = L := ⟨_, rfl⟩
 rw [hLn] at HHAS HAT ⊢
 obtain ⟨W0, hW0⟩ : ∃ x, Tr.wrong L ks = x := ⟨_, rfl⟩
 rw [hW0]
 have HW0 := Lib.hid hW0
 have hfd := nfield_under
 clear h hL hl hLn hW0
 go_enter Try.func48, Try.ntmps48
 go_wp2_with fail
 go_loopw [5, 10] (fun tk i wr => ∃ j : Nat, j ≤ n ∧ i = .int .i64 (j : Int) ∧ tk = .bool ((ks.take j).any fun k => (Tr.at_ L k).under) ∧ (ks.take j).any (fun k => !Tr.has L k) = false ∧ Below w.heap.size w wr) (fun _ i _ => n - (intOf i).toNat)
 case atStart => exact ⟨0, by omega, rfl, rfl, rfl, Below.refl _ _⟩
 case round =>
  obtain ⟨j, hj, rfl, rfl, hh, hb⟩ := hrel
  have HB := Lib.hid hb
  have HH := Lib.hid hh
  obtain ⟨TK, hTK⟩ : ∃ TK, ((ks.take j).any fun k => (Tr.at_ L k).under) = TK := ⟨_, rfl⟩
  rw [hTK]
  have HTK := Lib.hid hTK
  clear hb hh hTK
  by_cases hlt : j < n
  ·obtain ⟨x, hx⟩ : ∃ x, ks[j]? = some x := ⟨_, List.getElem?_eq_getElem (by rw [HLEN.out]; exact hlt)⟩
   obtain ⟨b, o, rfl, hbl, hc⟩ := lie_at (HL.out.below HB.out) hx
   have HX := Lib.hid hx
   have hji : (j : Int) < (n : Int) := by omega
   have hj0 : (0 : Int) ≤ (j : Int) := by omega
   clear hx
   have HC1 := Lib.hid (HHAS.out x wr HB.out)
   have HTA := Lib.hid (takeT_any HX.out fun k => !Tr.has L k)
   have HTU := Lib.hid (takeT_any HX.out fun k => (Tr.at_ L k).under)
   cases hx1 : Tr.has L x with
   | false =>
    rw [hx1] at HC1
    have hw2 : W0 = 2 := by
     rw [← HW0.out]
     unfold Tr.wrong
     rw [if_pos]
     exact List.any_eq_true.2 ⟨x, List.mem_of_getElem? HX.out, by rw [hx1]; rfl⟩
    subst hw2
    clear hx1
    go_wp2_with fail
    refine HC1.out.mono ?_
    rintro e w1 ⟨rfl, hb1⟩
    have HB1 := Lib.hid (HB.out.trans (hb1.mono HB.out.size))
    clear hb1
    go_wp2_with fail
    go_ret
    exact ⟨rfl, HB1.out⟩
   | true =>
    rw [hx1] at HC1
    have HX1 := Lib.hid hx1
    clear hx1
    go_wp2_with fail
    refine HC1.out.mono ?_
    rintro e w1 ⟨rfl, hb1⟩
    have HB1 := Lib.hid (HB.out.trans (hb1.mono HB.out.size))
    have HC2 := Lib.hid (HAT.out x w1 HB1.out)
    clear hb1
    cases TK with
    | true =>
     go_wp2_with fail
     go_roundw
     case rel => exact ⟨j + 1, by omega, by go_num, by rw [HTU.out, HTK.out]; rfl, by rw [HTA.out, HH.out, HX1.out]; rfl, HB1.out⟩
     case measure => simp [intOf]; omega
    | false =>
     go_wp2_with fail
     refine HC2.out.mono ?_
     rintro e w2 ⟨rfl, hb2⟩
     have HB2 := Lib.hid (HB1.out.trans (hb2.mono HB1.out.size))
     clear hb2
     go_wp2_with fail
     go_roundw
     case rel => exact ⟨j + 1, by omega, by go_num, by rw [HTU.out, HTK.out]; rfl, by rw [HTA.out, HH.out, HX1.out]; rfl, HB2.out⟩
     case measure => simp [intOf]; omega
  ·obtain rfl : j = n := by omega
   have hall : ks.take j = ks := List.take_of_length_le (by rw [HLEN.out]; exact Nat.le_refl _)
   rw [hall] at HH HTK
   have HC3 := Lib.hid (HTW.out wr HB.out)
   have hW : W0 = if (TK || decide (¬ ks.Nodup)) = true then 15 else 0 := by
    rw [← HW0.out, ← HTK.out]
    unfold Tr.wrong
    rw [HH.out]; rfl
   clear hall hlt
   cases TK with
   | true =>
    obtain rfl : W0 = 15 := hW
    go_wp2_with fail
    go_ret
    exact ⟨rfl, HB.out⟩
   | false =>
    by_cases hnd : ks.Nodup
    ·have hd : decide (¬ ks.Nodup) = false := by simp [hnd]
     rw [hd] at hW HC3
     obtain rfl : W0 = 0 := hW
     clear hd hnd
     go_wp2_with fail
     refine HC3.out.mono ?_
     rintro e w2 ⟨rfl, hb2⟩
     have HB2 := Lib.hid (HB.out.trans (hb2.mono HB.out.size))
     clear hb2
     go_wp2_with fail
     go_ret
     exact ⟨rfl, HB2.out⟩
    ·have hd : decide (¬ ks.Nodup) = true := by simp [hnd]
     rw [hd] at hW HC3
     obtain rfl : W0 = 15 := hW
     clear hd hnd
     go_wp2_with fail
     refine HC3.out.mono ?_
     rintro e w2 ⟨rfl, hb2⟩
     have HB2 := Lib.hid (HB.out.trans (hb2.mono HB.out.size))
     clear hb2
     go_wp2_with fail
     go_ret
     exact ⟨rfl, HB2.out⟩
structure Done (w w' : World) (B tg g mb : Nat) (l : Int) (L : List Tr.Nd) : Prop where
 tree : ∃ m S, TreeIs w' B tg g mb l m S ∧ nds S = L
 spares : Spares [124, 134, 89] w w'
 below : Below B w w'
theorem keeps_spares3 {w w' : World} {B g mb : Nat} {v : Value} {S : List Sl} {c : Array Value} (h : ArN w B g mb v S) (hM : At w mb 89 c) (hk : Keeps (g :: mb :: v.ownBlock.toList) w w') :
  Spares [124, 134, 89] w w' :=
 hk.spares (fun k hk cs t ht => by
  simp only [List.mem_cons, Option.mem_toList] at hk
  rcases hk with rfl | rfl | hk
  ·rw [h.at_.type ht]; simp
  ·rw [hM.type ht]; simp
  ·rw [own_type h.own (by simpa using hk) ht]; simp)
theorem nds_append (S : List Sl) (s : Sl) : nds (S ++ [s]) = nds S ++ [s.x] := by simp [nds]
theorem keeps_below3 {w w' : World} {B g mb : Nat} {v : Value} {S : List Sl} (h : ArN w B g mb v S) (hg : B ≤ g) (hm : B ≤ mb) (hB : B ≤ w.heap.size) (hk : Keeps (g :: mb :: v.ownBlock.toList) w w') : Below B w w' :=
 hk.below (fun x hx => by
  simp only [List.mem_cons, Option.mem_toList] at hx
  rcases hx with rfl | rfl | hx
  ·exact hg
  ·exact hm
  ·exact (h.own.lt x (by simpa using hx)).1) hB
def putAns (l : Int) (S : List Sl) (s : Sl) : Int × Int × List Sl := if l - costS S < 1 + (s.x.kids.length : Int) then (0, 5, S) else ((S.length : Int), 0, S ++ [s])
theorem tput_any (s : Sl) (w : World) (B tg g mb : Nat) (l m : Int) (S : List Sl) (h : TreeIs w B tg g mb l m S) (hB : B ≤ w.heap.size) (hk : Lie w 3 s.A (vals s.x.kids)) (hn : s.x.kids.length ≤ 1000000) :
  Calls Try.prog 47 #[.pointer (some ⟨g, 0, none⟩), .agg s.nd.toArray, .int .i64 (1 + (s.x.kids.length : Int))] w fun e w' => e = .returned (.tuple #[.int .i64 (putAns l S s).1, .int .i64 (putAns l S s).2.1]) ∧
   (∃ m', TreeIs w' B tg g mb l m' (putAns l S s).2.2) ∧ Spares [124, 134, 89] w w' ∧ Below B w w' := by
 obtain ⟨v, h1, h2⟩ := h.ex
 by_cases hq : l - costS S < 1 + (s.x.kids.length : Int)
 ·have e : putAns l S s = (0, 5, S) := by unfold putAns; rw [if_pos hq]
  rw [e]
  refine (putN_no s w B g mb v S l m h2 h.meter h.room (by omega) hB hq).mono ?_
  rintro e w' ⟨rfl, hA, hM, hK⟩
  have hK3 : Keeps (g :: mb :: v.ownBlock.toList) w w' := hK.mono (fun x hx => .inl (by simp at hx; simp [hx]))
  have hS := keeps_spares3 h2 h.meter hK3
  exact ⟨rfl, ⟨m, ⟨v, h1.spares hS (by decide), hA⟩, h.low, hM, fun q hq => (h.kids q hq).stay (stay_spares hS (by decide)), h.room, h.len⟩, hS, keeps_below3 h2 h.low.2.1 h.low.2.2 hB hK3⟩
 ·have e : putAns l S s = ((S.length : Int), 0, S ++ [s]) := by unfold putAns; rw [if_neg hq]
  rw [e]
  refine (putN_yes s w B g mb v S l m h2 h.meter h.room (by omega) hB (by omega)).mono ?_
  rintro e w' ⟨rfl, v', m', hA, hM, hK⟩
  have hS := keeps_spares3 h2 h.meter hK
  have hco : costS (S ++ [s]) = costS S + (1 + (s.x.kids.length : Int)) := by unfold costS; rw [nds_append, Tr.cost_append, Tr.cost_one]
  refine ⟨rfl, ⟨m', ⟨v', h1.spares hS (by decide), hA⟩, h.low, hM, fun q hq => ?_, ⟨by rw [hco]; omega, h.room.2⟩, fun q hq => ?_⟩, hS, keeps_below3 h2 h.low.2.1 h.low.2.2 hB hK⟩
  ·rcases List.mem_append.1 hq with hq | hq
   ·exact (h.kids q hq).stay (stay_spares hS (by decide))
   ·obtain rfl : q = s := by simpa using hq
    exact hk.stay (stay_spares hS (by decide))
  ·rcases List.mem_append.1 hq with hq | hq
   ·exact h.len q hq
   ·obtain rfl : q = s := by simpa using hq
    exact hn
def leafSl (x : Tr.Tok) : Sl := ⟨Tr.leafOf x, none, 0⟩
theorem putAns_leaf (l : Int) (S : List Sl) (x : Tr.Tok) : (putAns l S (leafSl x)).1 = (Tr.leaf l (nds S) x).n ∧ (putAns l S (leafSl x)).2.1 = (Tr.leaf l (nds S) x).e ∧ nds (putAns l S (leafSl x)).2.2 = (Tr.leaf l (nds S) x).L := by
 unfold putAns Tr.leaf
 show _ ∧ _ ∧ _
 have e : (1 + ((leafSl x).x.kids.length : Int)) = 1 := rfl
 rw [e]
 by_cases h : l - costS S < 1
 ·rw [if_pos h, if_pos (show l - Tr.cost (nds S) < 1 from h)]; exact ⟨rfl, rfl, rfl⟩
 ·rw [if_neg h, if_neg (show ¬ l - Tr.cost (nds S) < 1 from h), nds_len, nds_append]; exact ⟨rfl, rfl, rfl⟩
set_option maxHeartbeats 4000000 in
theorem tleafP_any (x : Tr.Tok) (w : World) (B tg g mb : Nat) (l m : Int) (S : List Sl) (h : TreeIs w B tg g mb l m S) (hB : B ≤ w.heap.size) :
  Calls Try.prog 22 #[.pointer (some ⟨tg, 0, none⟩), .agg #[.int .i64 x.t, .int .i64 x.a, .int .i64 x.b]] w fun e w' => e = .returned (.tuple #[.int .i64 (Tr.leaf l (nds S) x).n, .int .i64 (Tr.leaf l (nds S) x).e]) ∧ Done w w' B tg g mb l (Tr.leaf l (nds S) x).L := by
 obtain ⟨W, hW⟩ : ∃ W, w.alloc (.cells #[.int .i64 x.t, .int .i64 x.a, .int .i64 x.b] 56) = W := ⟨_, rfl⟩
 have hbW : Below w.heap.size w W := by rw [← hW]; exact (Below.refl w.heap.size w).alloc (Nat.le_refl _) _
 have hR : At W w.heap.size 56 #[.int .i64 x.t, .int .i64 x.a, .int .i64 x.b] := by rw [← hW]; exact At.new _ _ _
 obtain ⟨v, h1, h2⟩ := h.ex
 have c0 := (h1.below hbW h1.lt).cell 0
 have r0 := hR.cell 0
 have r1 := hR.cell 1
 have r2 := hR.cell 2
 simp at c0 r0 r1 r2
 obtain ⟨e1, e2, e3⟩ := putAns_leaf l S x
 have hbs := hbW.size
 have hput := tput_any (leafSl x) W.drew B tg g mb l m S (h.below hbW).drew (by show B ≤ W.heap.size; omega) (Lie.nil _ _ _) (Nat.zero_le _)
 rw [show (leafSl x).nd = [.bool true, .bool false, .int .i64 (-1), .int .i64 x.t, .int .i64 x.t, .int .i64 x.a, .int .i64 x.b, .slice none 0 0] from rfl, show (1 + ((leafSl x).x.kids.length : Int)) = 1 from rfl, e1, e2] at hput
 have hbd : Below B w W.drew := by rw [← hW]; exact below_drew ((Below.refl B w).alloc hB _)
 have hsd : Spares [124, 134, 89] w W.drew := by rw [← hW]; exact ((Spares.refl _ w).alloc _).drewN 1
 have hput2 : Calls Try.prog 47 #[.pointer (some ⟨g, 0, none⟩), .agg #[.bool true, .bool false, .int .i64 (-1), .int .i64 x.t, .int .i64 x.t, .int .i64 x.a, .int .i64 x.b, .slice none 0 0], .int .i64 1] W.drew fun e w' => e = .returned (.tuple #[.int .i64 (Tr.leaf l (nds S) x).n, .int .i64 (Tr.leaf l (nds S) x).e]) ∧ Done w w' B tg g mb l (Tr.leaf l (nds S) x).L := hput.mono (by
  rintro e w' ⟨q1, ⟨m', q2⟩, q3, q4⟩
  exact ⟨q1, ⟨⟨m', _, q2, e3⟩, hsd.trans q3, hbd.trans q4⟩⟩)
 have HPUT := Lib.hid hput2
 have HBW := Lib.hid hbW
 have hwW := Lib.hid hW
 clear h h1 h2 hR hbW hput hput2 e1 e2 e3 hbd hsd
 go_enter Try.func22, Try.ntmps22
 go_wp2_with fail
 go_region_with (go_at_call 47; refine HPUT.out.mono ?_; rintro e w' ⟨rfl, hR⟩; have HR := Lib.hid hR; clear hR)
 all_goals
  go_wp2
  go_ret2
  exact ⟨rfl, HR.out⟩
end Go.Proofs.Ytdhhkancbgealaa
