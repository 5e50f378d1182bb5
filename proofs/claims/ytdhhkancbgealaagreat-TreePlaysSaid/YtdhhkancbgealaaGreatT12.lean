import Derived.Test.YtdhhkancbgealaaGreatT11
import Derived.Test.YtdhhkancbgealaaGreatT07
import Derived.RangeFuncWrites
import Derived.RangeFuncBox
import Derived.RangeFuncLeaves
import Derived.RangeFuncNested
import Derived.RangeFuncCalls
import Derived.RangeFuncBound
import Derived.Shelf.Abstract
import Derived.Shelf.RegionOpen
import Derived.OwnWalkIn
import Derived.LoopIn
section
namespace Go.Proofs.YtdhhkancbgealaaGreat
open Go.RowKit
open Lx
set_option linter.unusedVariables false
set_option linter.unusedSimpArgs false
set_option maxRecDepth 100000
def Sl.no : Sl := ⟨Tr.none_, none, 0⟩
def slAt (S : List Sl) (i : Int) : Sl := if 0 ≤ i then (S[i.toNat]?).getD Sl.no else Sl.no
theorem slAt_x (S : List Sl) (i : Int) : (slAt S i).x = Tr.at_ (nds S) i := by
 unfold slAt Tr.at_ nds
 split
 ·rw [List.getElem?_map]
  cases S[i.toNat]? <;> rfl
 ·rfl
theorem slAt_out {S : List Sl} {i : Int} (h : Tr.has (nds S) i = false) : slAt S i = Sl.no := by
 have := Tr.has_false h
 rw [nds_len] at this
 unfold slAt; split
 ·rw [List.getElem?_eq_none (by omega)]; rfl
 ·rfl
theorem slAt_mem {S : List Sl} {i : Int} (h : Tr.has (nds S) i = true) : ∃ s, S[i.toNat]? = some s ∧ slAt S i = s ∧ 0 ≤ i := by
 have := Tr.has_true h
 rw [nds_len] at this
 have hlt : i.toNat < S.length := by omega
 exact ⟨S[i.toNat], List.getElem?_eq_getElem hlt, by unfold slAt; rw [if_pos this.1, List.getElem?_eq_getElem hlt]; rfl, this.1⟩
structure TreeIs (w : World) (B tg g mb : Nat) (l m : Int) (S : List Sl) : Prop where
 ex : ∃ v, At w tg 93 #[.pointer (some ⟨g, 0, none⟩)] ∧ ArN w B g mb v S
 low : B ≤ tg ∧ B ≤ g ∧ B ≤ mb
 meter : At w mb 87 #[.int .i64 l, .int .i64 (costS S), .int .i64 m]
 kids : ∀ s ∈ S, Lie w 3 s.A (vals s.x.kids)
 room : costS S ≤ l ∧ l ≤ 1099511627776
 len : ∀ s ∈ S, s.x.kids.length ≤ 1000000
section
variable {w w' : World} {B tg g mb : Nat} {l m : Int} {S : List Sl}
theorem TreeIs.at_ (h : TreeIs w B tg g mb l m S) : At w tg 93 #[.pointer (some ⟨g, 0, none⟩)] := by obtain ⟨v, h1, _⟩ := h.ex; exact h1
theorem TreeIs.below (h : TreeIs w B tg g mb l m S) (hb : Below w.heap.size w w') : TreeIs w' B tg g mb l m S := by
 obtain ⟨v, h1, h2⟩ := h.ex
 exact ⟨⟨v, h1.below hb h1.lt, h2.below hb⟩, h.low, h.meter.below hb h.meter.lt, fun s hs => (h.kids s hs).below hb, h.room, h.len⟩
theorem TreeIs.drew (h : TreeIs w B tg g mb l m S) : TreeIs w.drew B tg g mb l m S := by
 obtain ⟨v, h1, h2⟩ := h.ex
 exact ⟨⟨v, h1.drew, h2.drew⟩, h.low, h.meter.drew, fun s hs => (h.kids s hs).drew, h.room, h.len⟩
theorem stay_spares {t : TypeId} {ts : List TypeId} (hs : Spares ts w w') (ht : t ∉ ts) : Stay t w w' := fun b cs hb => hb.spares hs ht
def treeT : List TypeId := [93, 128, 139, 87, 3]
theorem TreeIs.spares {ts : List TypeId} (h : TreeIs w B tg g mb l m S) (hs : Spares ts w w') (ht : ∀ t ∈ treeT, t ∉ ts) : TreeIs w' B tg g mb l m S := by
 obtain ⟨v, h1, h2⟩ := h.ex
 have t0 := ht _ (by simp [treeT] : 93 ∈ treeT)
 have t1 := ht _ (by simp [treeT] : 128 ∈ treeT)
 have t2 := ht _ (by simp [treeT] : 139 ∈ treeT)
 have t3 := ht _ (by simp [treeT] : 87 ∈ treeT)
 have t4 := ht _ (by simp [treeT] : 3 ∈ treeT)
 exact ⟨⟨v, h1.spares hs t0, h2.spares hs t1 t2⟩, h.low, h.meter.spares hs t3, fun s hk => (h.kids s hk).stay (stay_spares hs t4), h.room, h.len⟩
theorem TreeIs.kid (h : TreeIs w B tg g mb l m S) (i : Int) : Lie w 3 (slAt S i).A (vals (slAt S i).x.kids) ∧ (slAt S i).x.kids.length ≤ 1000000 := by
 cases hh : Tr.has (nds S) i with
 | true =>
  obtain ⟨s, h1, h2, _⟩ := slAt_mem hh
  rw [h2]; exact ⟨h.kids s (List.mem_of_getElem? h1), h.len s (List.mem_of_getElem? h1)⟩
 | false => rw [slAt_out hh]; exact ⟨Lie.nil _ _ _, by decide⟩
end
set_option maxHeartbeats 800000 in
theorem tnew_any (mb : Nat) (B : Nat) (l m : Int) (w : World) (hM : At w mb 87 #[.int .i64 l, .int .i64 0, .int .i64 m]) (hl : 0 ≤ l ∧ l ≤ 1099511627776) (hB : B ≤ w.heap.size) (hBm : B ≤ mb) :
  Calls Tryz.prog 11 #[.pointer (some ⟨mb, 0, none⟩)] w fun e w' => ∃ tg g, e = .returned (.pointer (some ⟨tg, 0, none⟩)) ∧ TreeIs w' B tg g mb l m [] ∧ w.heap.size ≤ tg ∧ Below w.heap.size w w' := by
 have HM := Lib.hid hM
 clear hM
 go_enter Tryz.func11, Tryz.ntmps11
 go_wp2_with fail
 refine (newN_any mb w).mono ?_
 rintro e w1 ⟨rfl, hw1⟩
 have hA : ArN w1 B w.heap.size mb (.slice none 0 0) [] := by
  rw [← hw1]
  exact ⟨At.new w _ _, World.ownsRow_nil _ _ _ _, by decide⟩
 have hb : Below w.heap.size w w1 := by rw [← hw1]; exact (Below.refl w.heap.size w).alloc (Nat.le_refl _) _
 have hs : w1.heap.size = w.heap.size + 1 := by rw [← hw1]; simp
 have HSZ := Lib.hid hs
 have HA := Lib.hid hA
 have HB := Lib.hid hb
 clear hw1 hA hb hs
 go_wp2_with fail
 go_ret
 have hs := HSZ.out
 have hb2 := (Below.refl w1.heap.size w1).alloc (Nat.le_refl _) (.cells #[.pointer (some ⟨w.heap.size, 0, none⟩)] 93)
 refine ⟨w1.heap.size, w.heap.size, rfl, ⟨⟨_, At.new w1 _ _, HA.out.below hb2⟩, ⟨by omega, by omega, hBm⟩, (HM.out.below HB.out HM.out.lt).below hb2 (by have := HM.out.lt; omega), by simp, ⟨hl.1, hl.2⟩, by simp⟩, by omega, HB.out.alloc (by omega) _⟩
theorem node_six (x : Tr.Nd) (k : Value) : (ndC x k) = [.bool x.leaf, .bool x.under, .int .i64 x.rule, .int .i64 x.sym, .int .i64 x.tok.t, .int .i64 x.tok.a, .int .i64 x.tok.b, k] := rfl
set_option maxHeartbeats 1600000 in
theorem thas_any (i : Int) (w : World) (B tg g mb : Nat) (l m : Int) (S : List Sl) (h : TreeIs w B tg g mb l m S) :
  Calls Tryz.prog 73 #[.pointer (some ⟨tg, 0, none⟩), .int .i64 i] w fun e w' => e = .returned (.bool (Tr.has (nds S) i)) ∧ Below w.heap.size w w' := by
 obtain ⟨v, h1, h2⟩ := h.ex
 have c0 := h1.cell 0
 simp at c0
 have HAT : ∃ x kv b, (Calls Tryz.prog 72 #[.pointer (some ⟨g, 0, none⟩), .int .i64 i] w fun e w' => e = .returned (.tuple #[.agg (ndC x kv).toArray, .bool b]) ∧ Below w.heap.size w w') ∧ b = Tr.has (nds S) i ∧ ∃ sa kn sc, kv = .slice sa kn sc := by
  cases hh : Tr.has (nds S) i with
  | true =>
   obtain ⟨s, q1, q2, q3⟩ := slAt_mem hh
   have hi : (i.toNat : Int) = i := by omega
   have := atN_in i.toNat s w B g mb v S h2 q1
   rw [hi] at this
   exact ⟨s.x, s.kv, true, this, rfl, _, _, _, rfl⟩
  | false => exact ⟨_, _, false, atN_out i w B g mb v S h2 hh, rfl, _, _, _, rfl⟩
 obtain ⟨x, kv, b, hc, hb, sa, kn, sc, rfl⟩ := HAT
 rw [← hb]
 rw [node_six] at hc
 obtain ⟨x0, x1, x2, x3, ⟨x4, x5, x6⟩, x7⟩ := x
 have HC := Lib.hid hc
 clear h h1 h2 hb hc
 go_enter Tryz.func73, Tryz.ntmps73
 go_wp2_with fail
 refine HC.out.mono ?_
 rintro e w1 ⟨rfl, hb1⟩
 have HB := Lib.hid hb1
 have hs1 := hb1.size
 clear hb1 HC
 go_wp2_with fail
 go_ret
 exact ⟨rfl, HB.out.alloc hs1 _⟩
set_option maxHeartbeats 3200000 in
theorem tat_any (i : Int) (w : World) (B tg g mb : Nat) (l m : Int) (S : List Sl) (h : TreeIs w B tg g mb l m S) :
  Calls Tryz.prog 49 #[.pointer (some ⟨tg, 0, none⟩), .int .i64 i] w fun e w' => e = .returned (.agg (slAt S i).nd.toArray) ∧ Below w.heap.size w w' := by
 obtain ⟨W, hW⟩ : ∃ W, w.alloc (.cells #[.bool false, .bool false, .int .i64 0, .int .i64 0, .int .i64 0, .int .i64 0, .int .i64 0, .slice none 0 0] 91) = W := ⟨_, rfl⟩
 have hbW : Below w.heap.size w W := by rw [← hW]; exact (Below.refl w.heap.size w).alloc (Nat.le_refl _) _
 have hR : At W w.heap.size 91 #[.bool false, .bool false, .int .i64 0, .int .i64 0, .int .i64 0, .int .i64 0, .int .i64 0, .slice none 0 0] := by rw [← hW]; exact At.new _ _ _
 obtain ⟨v, h1, h2⟩ := h.ex
 have c0 := h1.cell 0
 have htl := h1.lt
 simp at c0
 have h2W := h2.below hbW
 have hRl := hR.lt
 cases hh : Tr.has (nds S) i with
 | true =>
  obtain ⟨s, q1, q2, q3⟩ := slAt_mem hh
  have hi : (i.toNat : Int) = i := by omega
  have hc := atN_in i.toNat s W B g mb v S h2W q1
  rw [hi] at hc
  rw [q2]
  have HLIT := Lib.hid (show s.nd = [.bool s.x.leaf, .bool s.x.under, .int .i64 s.x.rule, .int .i64 s.x.sym, .int .i64 s.x.tok.t, .int .i64 s.x.tok.a, .int .i64 s.x.tok.b, .slice s.A s.x.kids.length s.c] from rfl)
  rw [HLIT.out] at hc ⊢
  obtain ⟨⟨x0, x1, x2, x3, ⟨x4, x5, x6⟩, x7⟩, sa, sc⟩ := s
  dsimp only at hc ⊢
  generalize x7.length = kn at hc ⊢
  have HC := Lib.hid hc
  have HW := Lib.hid hW
  have HR := Lib.hid hR
  have HBW := Lib.hid hbW
  clear h h1 h2 h2W hc hh q1 q2 q3 hi hbW hW hR HLIT
  go_enter Tryz.func49, Tryz.ntmps49
  go_wp2_with fail
  rw [HW.out]
  refine HC.out.mono ?_
  rintro e w1 ⟨rfl, hb1⟩
  have HB1 := Lib.hid (HBW.out.trans (hb1.mono HBW.out.size))
  have HR1 := Lib.hid ((HR.out.below hb1 hRl).alloc (.cells #[.bool x0, .bool x1, .int .i64 x2, .int .i64 x3, .int .i64 x4, .int .i64 x5, .int .i64 x6, .slice sa kn sc] 91))
  clear hb1 HC
  go_wp2_with (refine wpList_store_at rfl _ _ _ rfl rfl w.heap.size _ _ [_, _, _, _, _, _, _, _] rfl rfl HR1.out 8 sizeNode rfl rfl rfl ?_; intro w3 hA3 hg3)
  refine bodyPost_ret (results_cell_row rfl _ _ w.heap.size _ _ (0, 0) _ rfl hA3 Tryz.underlying91 rfl sizeNode) rfl ⟨rfl, below_grown (HB1.out.alloc HB1.out.size _) hg3 (by simp; exact Nat.le_succ_of_le HB1.out.size) (Nat.le_refl _)⟩
 | false =>
  have hc := atN_out i W B g mb v S h2W hh
  rw [slAt_out hh]
  rw [node_six] at hc
  dsimp only [Tr.Tok.zero] at hc
  have HC := Lib.hid hc
  have HW := Lib.hid hW
  have HR := Lib.hid hR
  have HBW := Lib.hid hbW
  clear h h1 h2 h2W hc hh hbW hW hR
  go_enter Tryz.func49, Tryz.ntmps49
  go_wp2_with fail
  rw [HW.out]
  refine HC.out.mono ?_
  rintro e w1 ⟨rfl, hb1⟩
  have HB1 := Lib.hid (HBW.out.trans (hb1.mono HBW.out.size))
  have HR1 := Lib.hid ((HR.out.below hb1 hRl).alloc (.cells #[.bool false, .bool false, .int .i64 0, .int .i64 0, .int .i64 0, .int .i64 0, .int .i64 0, .slice none 0 0] 91))
  clear hb1 HC
  go_wp2_with (refine wpList_store_at rfl _ _ _ rfl rfl w.heap.size _ _ [_, _, _, _, _, _, _, _] rfl rfl HR1.out 8 sizeNode rfl rfl rfl ?_; intro w3 hA3 hg3)
  refine bodyPost_ret (results_cell_row rfl _ _ w.heap.size _ _ (0, 0) _ rfl hA3 Tryz.underlying91 rfl sizeNode) rfl ⟨rfl, below_grown (HB1.out.alloc HB1.out.size _) hg3 (by simp; exact Nat.le_succ_of_le HB1.out.size) (Nat.le_refl _)⟩
theorem tat_parts (i : Int) (w : World) (B tg g mb : Nat) (l m : Int) (S : List Sl) (h : TreeIs w B tg g mb l m S) :
  Calls Tryz.prog 49 #[.pointer (some ⟨tg, 0, none⟩), .int .i64 i] w fun e w' => e = .returned (.agg #[.bool (Tr.at_ (nds S) i).leaf, .bool (Tr.at_ (nds S) i).under, .int .i64 (Tr.at_ (nds S) i).rule, .int .i64 (Tr.at_ (nds S) i).sym, .int .i64 (Tr.at_ (nds S) i).tok.t, .int .i64 (Tr.at_ (nds S) i).tok.a, .int .i64 (Tr.at_ (nds S) i).tok.b, .slice (slAt S i).A (Tr.at_ (nds S) i).kids.length (slAt S i).c]) ∧ Below w.heap.size w w' := by
 rw [← slAt_x]
 exact tat_any i w B tg g mb l m S h
set_option maxHeartbeats 800000 in
theorem tlen_any (w : World) (B tg g mb : Nat) (l m : Int) (S : List Sl) (h : TreeIs w B tg g mb l m S) :
  Calls Tryz.prog 15 #[.pointer (some ⟨tg, 0, none⟩)] w fun e w' => e = .returned (.int .i64 ((nds S).length : Int)) ∧ w = w' := by
 obtain ⟨v, h1, h2⟩ := h.ex
 have c0 := h1.cell 0
 simp at c0
 rw [nds_len]
 have HC := Lib.hid (lenN_any w B g mb v S h2)
 clear h h1 h2
 go_enter Tryz.func15, Tryz.ntmps15
 go_wp2_with fail
 refine HC.out.mono ?_
 rintro e w1 ⟨rfl, rfl⟩
 go_wp2_with fail
 go_ret
 exact ⟨rfl, rfl⟩
set_option maxHeartbeats 800000 in
theorem tcells_any (w : World) (B tg g mb : Nat) (l m : Int) (S : List Sl) (h : TreeIs w B tg g mb l m S) :
  Calls Tryz.prog 16 #[.pointer (some ⟨tg, 0, none⟩)] w fun e w' => e = .returned (.int .i64 (Tr.cost (nds S))) ∧ w = w' := by
 obtain ⟨v, h1, h2⟩ := h.ex
 have c0 := h1.cell 0
 simp at c0
 have HC := Lib.hid (cellsN_any w B g mb v S h2)
 rw [show costS S = Tr.cost (nds S) from rfl] at HC
 clear h h1 h2
 go_enter Tryz.func16, Tryz.ntmps16
 go_wp2_with fail
 refine HC.out.mono ?_
 rintro e w1 ⟨rfl, rfl⟩
 go_wp2_with fail
 go_ret
 exact ⟨rfl, rfl⟩
theorem nfield_leaf (a0 a1 : Bool) (a2 a3 a4 a5 a6 : Int) (a7 : Option Addr) (n a8 : Nat) (w : World) : (Instr.field 91 (.agg #[.bool a0, .bool a1, .int .i64 a2, .int .i64 a3, .int .i64 a4, .int .i64 a5, .int .i64 a6, .slice a7 n a8]) 0).run Tryz.prog w = .ok (.bool a0) w := by kernel_rfl
theorem nfield_under (a0 a1 : Bool) (a2 a3 a4 a5 a6 : Int) (a7 : Option Addr) (n a8 : Nat) (w : World) : (Instr.field 91 (.agg #[.bool a0, .bool a1, .int .i64 a2, .int .i64 a3, .int .i64 a4, .int .i64 a5, .int .i64 a6, .slice a7 n a8]) 1).run Tryz.prog w = .ok (.bool a1) w := by kernel_rfl
theorem nfield_rule (a0 a1 : Bool) (a2 a3 a4 a5 a6 : Int) (a7 : Option Addr) (n a8 : Nat) (w : World) : (Instr.field 91 (.agg #[.bool a0, .bool a1, .int .i64 a2, .int .i64 a3, .int .i64 a4, .int .i64 a5, .int .i64 a6, .slice a7 n a8]) 2).run Tryz.prog w = .ok (.int .i64 a2) w := by kernel_rfl
theorem nfield_sym (a0 a1 : Bool) (a2 a3 a4 a5 a6 : Int) (a7 : Option Addr) (n a8 : Nat) (w : World) : (Instr.field 91 (.agg #[.bool a0, .bool a1, .int .i64 a2, .int .i64 a3, .int .i64 a4, .int .i64 a5, .int .i64 a6, .slice a7 n a8]) 3).run Tryz.prog w = .ok (.int .i64 a3) w := by kernel_rfl
theorem nfield_tok (a0 a1 : Bool) (a2 a3 a4 a5 a6 : Int) (a7 : Option Addr) (n a8 : Nat) (w : World) : (Instr.field 91 (.agg #[.bool a0, .bool a1, .int .i64 a2, .int .i64 a3, .int .i64 a4, .int .i64 a5, .int .i64 a6, .slice a7 n a8]) 4).run Tryz.prog w = .ok (.agg #[.int .i64 a4, .int .i64 a5, .int .i64 a6]) w := by kernel_rfl
theorem nfield_kids (a0 a1 : Bool) (a2 a3 a4 a5 a6 : Int) (a7 : Option Addr) (n a8 : Nat) (w : World) : (Instr.field 91 (.agg #[.bool a0, .bool a1, .int .i64 a2, .int .i64 a3, .int .i64 a4, .int .i64 a5, .int .i64 a6, .slice a7 n a8]) 5).run Tryz.prog w = .ok (.slice a7 n a8) w := by kernel_rfl
section
variable (i : Int) (w : World) (B tg g mb : Nat) (l m : Int) (S : List Sl) (h : TreeIs w B tg g mb l m S)
include h
set_option maxHeartbeats 800000 in
theorem tsym_any : Calls Tryz.prog 20 #[.pointer (some ⟨tg, 0, none⟩), .int .i64 i] w fun e w' => e = .returned (.int .i64 (Tr.at_ (nds S) i).sym) ∧ Below w.heap.size w w' := by
 have HC := Lib.hid (tat_parts i w B tg g mb l m S h)
 clear h
 have hfd := nfield_sym
 go_enter Tryz.func20, Tryz.ntmps20
 go_wp2_with fail
 refine HC.out.mono ?_
 rintro e w1 ⟨rfl, hb⟩
 go_wp2_with fail
 go_ret
 exact ⟨rfl, hb⟩
set_option maxHeartbeats 800000 in
theorem trule_any : Calls Tryz.prog 21 #[.pointer (some ⟨tg, 0, none⟩), .int .i64 i] w fun e w' => e = .returned (.int .i64 (Tr.at_ (nds S) i).rule) ∧ Below w.heap.size w w' := by
 have HC := Lib.hid (tat_parts i w B tg g mb l m S h)
 clear h
 have hfd := nfield_rule
 go_enter Tryz.func21, Tryz.ntmps21
 go_wp2_with fail
 refine HC.out.mono ?_
 rintro e w1 ⟨rfl, hb⟩
 go_wp2_with fail
 go_ret
 exact ⟨rfl, hb⟩
set_option maxHeartbeats 800000 in
theorem tleaf_any : Calls Tryz.prog 23 #[.pointer (some ⟨tg, 0, none⟩), .int .i64 i] w fun e w' => e = .returned (.bool (Tr.at_ (nds S) i).leaf) ∧ Below w.heap.size w w' := by
 have HC := Lib.hid (tat_parts i w B tg g mb l m S h)
 clear h
 have hfd := nfield_leaf
 go_enter Tryz.func23, Tryz.ntmps23
 go_wp2_with fail
 refine HC.out.mono ?_
 rintro e w1 ⟨rfl, hb⟩
 go_wp2_with fail
 go_ret
 exact ⟨rfl, hb⟩
set_option maxHeartbeats 1600000 in
theorem ttok_any : Calls Tryz.prog 22 #[.pointer (some ⟨tg, 0, none⟩), .int .i64 i] w fun e w' => e = .returned (.agg #[.int .i64 (Tr.at_ (nds S) i).tok.t, .int .i64 (Tr.at_ (nds S) i).tok.a, .int .i64 (Tr.at_ (nds S) i).tok.b]) ∧ Below w.heap.size w w' := by
 obtain ⟨W, hW⟩ : ∃ W, w.alloc (.cells #[.int .i64 0, .int .i64 0, .int .i64 0] 50) = W := ⟨_, rfl⟩
 have hbW : Below w.heap.size w W := by rw [← hW]; exact (Below.refl w.heap.size w).alloc (Nat.le_refl _) _
 have hR : At W w.heap.size 50 #[.int .i64 0, .int .i64 0, .int .i64 0] := by rw [← hW]; exact At.new _ _ _
 have HC := Lib.hid (tat_parts i W B tg g mb l m S (h.below hbW))
 have HW := Lib.hid hW
 have HR := Lib.hid hR
 have HBW := Lib.hid hbW
 have hRl := hR.lt
 clear h hW hR hbW
 have hfd := nfield_tok
 go_enter Tryz.func22, Tryz.ntmps22
 go_wp2_with fail
 rw [HW.out]
 refine HC.out.mono ?_
 rintro e w1 ⟨rfl, hb1⟩
 have HB1 := Lib.hid (HBW.out.trans (hb1.mono HBW.out.size))
 have HR1 := Lib.hid (HR.out.below hb1 hRl)
 clear hb1 HC
 go_wp2_with (refine wpList_store_at rfl _ _ _ rfl rfl w.heap.size _ _ [_, _, _] rfl rfl HR1.out 3 (by kernel_rfl) rfl rfl rfl ?_; intro w3 hA3 hg3)
 refine bodyPost_ret (results_cell_row rfl _ _ w.heap.size _ _ (0, 0) _ rfl hA3 Tryz.underlying50 rfl (by kernel_rfl)) rfl ⟨rfl, below_grown HB1.out hg3 HB1.out.size (Nat.le_refl _)⟩
set_option maxHeartbeats 1600000 in
theorem tkids_any : Calls Tryz.prog 25 #[.pointer (some ⟨tg, 0, none⟩), .int .i64 i] w fun e w' => ∃ A c, e = .returned (.slice A (Tr.at_ (nds S) i).kids.length c) ∧ w'.ownsRow w.heap.size 3 1 (.slice A (Tr.at_ (nds S) i).kids.length c) (Tr.at_ (nds S) i).kids.length (vals (Tr.at_ (nds S) i).kids) ∧ Below w.heap.size w w' := by
 obtain ⟨k1, k2⟩ := h.kid i
 rw [slAt_x] at k1 k2
 have HC := Lib.hid (tat_parts i w B tg g mb l m S h)
 have HK := Lib.hid k1
 have HN := Lib.hid k2
 clear h k1 k2
 have hfd := nfield_kids
 go_enter Tryz.func25, Tryz.ntmps25
 go_wp2_with fail
 refine HC.out.mono ?_
 rintro e w1 ⟨rfl, hb⟩
 have HB := Lib.hid hb
 have HCL := Lib.hid (cloneT_any _ _ (slAt S i).c _ w1 rfl (HK.out.below hb) (by have := HN.out; omega))
 clear hb
 go_wp2_with fail
 refine HCL.out.mono ?_
 rintro e w2 ⟨A', c', rfl, ho, hb2⟩
 have HO := Lib.hid (own_base ho HB.out.size)
 have HB2 := Lib.hid (HB.out.trans (hb2.mono HB.out.size))
 clear ho hb2
 go_wp2_with fail
 go_ret
 exact ⟨A', c', rfl, HO.out, HB2.out⟩
end
end Go.Proofs.YtdhhkancbgealaaGreat
end
section
namespace Go.Proofs.YtdhhkancbgealaaGreat
open Go.RowKit Go.Shelf
open Lx
set_option linter.unusedVariables false
set_option linter.unusedSimpArgs false
set_option maxRecDepth 100000
def dn (N m : Nat) : List Nat := (List.range m).map (fun j => N - 1 - j)
theorem dn_succ (N m : Nat) : dn N (m + 1) = dn N m ++ [N - 1 - m] := by simp [dn, List.range_succ]
theorem dn_len (N m : Nat) : (dn N m).length = m := by simp [dn]
def atB (R : List Int) (k : Nat) : Int := R.getD k 0
def encB (R : List Int) (k : Nat) : Array Value := #[.int .i64 (k : Int), .int .i64 (atB R k)]
theorem backward_any (A : Option Addr) (n c : Nat) (w : World) :
    Calls Tryz.prog 74 #[.slice A n c] w fun e w' => e = .returned (.func (.func 88) #[] #[.pointer (some ⟨w.heap.size, 0, none⟩)]) ∧ w' = w.alloc (.cells #[.slice A n c] 32) := by
  have hmf : ∀ (fn : Fn) (first cap : Array Value) (w : World), (Instr.makeFunc fn first cap).run Tryz.prog w = .ok (.func fn first cap) w := fun _ _ _ _ => rfl
  go_enter Tryz.func74, Tryz.ntmps74
  go_wp2_with fail
  go_ret
  exact ⟨rfl, rfl⟩
attribute [local go_sem] Oper.semAt_some
namespace Nm
end Nm
end Go.Proofs.YtdhhkancbgealaaGreat
end
