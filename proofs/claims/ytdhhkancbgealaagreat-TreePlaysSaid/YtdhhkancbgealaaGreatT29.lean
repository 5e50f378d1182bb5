import Derived.Test.YtdhhkancbgealaaGreatT28
import Derived.Test.YtdhhkancbgealaaGreatT18
import Derived.Deep.RegionLaw
namespace Go.Proofs.YtdhhkancbgealaaGreat
open Go.RowKit
open Lx
set_option linter.unusedVariables false
set_option linter.unusedSimpArgs false
set_option maxRecDepth 100000
namespace Tr
theorem mark_append {L : List Nd} (x : Nd) {k : Int} (h : has L k = true) : mark (L ++ [x]) k = mark L k ++ [x] := by
 have := has_true h
 unfold mark
 rw [if_pos this.1, if_pos this.1]
 refine List.ext_getElem? fun j => ?_
 by_cases hj : j < L.length
 ·rw [List.getElem?_append_left (by simpa using hj), List.getElem?_modify, List.getElem?_modify, List.getElem?_append_left hj]
 ·rw [List.getElem?_append_right (by simp; omega), List.getElem?_modify, List.getElem?_append_right (by omega)]
  have h1 : ¬ k.toNat = j := by omega
  simp [h1]
theorem has_mark (L : List Nd) (k i : Int) : has (mark L k) i = has L i := by unfold has; rw [mark_length]
theorem marks_append (x : Nd) : ∀ (ks : List Int) (L : List Nd), (∀ k ∈ ks, has L k = true) → marks (L ++ [x]) ks = marks L ks ++ [x]
 | [], L, _ => rfl
 | k :: ks, L, h => by
  show marks (mark (L ++ [x]) k) ks = marks (mark L k) ks ++ [x]
  rw [mark_append x (h k (by simp))]
  exact marks_append x ks _ (fun j hj => by rw [has_mark]; exact h j (by simp [hj]))
theorem wrong_has {L : List Nd} {ks : List Int} (h : wrong L ks = 0) : ∀ k ∈ ks, has L k = true := by
 unfold wrong at h
 split at h
 ·cases h
 ·rename_i h1
  intro k hk
  cases hh : has L k with
  | true => rfl
  | false => exact absurd (List.any_eq_true.2 ⟨k, hk, by rw [hh]; rfl⟩) h1
end Tr
abbrev writes3 : List TypeId := [128, 139, 87]
def AOk (F : Option Addr → Prop) (S : List Sl) : Prop := ∀ s ∈ S, s.x.kids ≠ [] → F s.A
structure DoneF (F : Option Addr → Prop) (w w' : World) (B tg g mb : Nat) (l : Int) (L : List Tr.Nd) : Prop where
 tree : ∃ m S, TreeIs w' B tg g mb l m S ∧ nds S = L ∧ AOk F S
 spares : Spares writes3 w w'
 below : Below B w w'
theorem DoneF.done {F : Option Addr → Prop} {w w' : World} {B tg g mb : Nat} {l : Int} {L : List Tr.Nd} (h : DoneF F w w' B tg g mb l L) : Done w w' B tg g mb l L := by
 obtain ⟨m, S, h1, h2, _⟩ := h.tree
 exact ⟨⟨m, S, h1, h2⟩, h.spares, h.below⟩
theorem own_from {w : World} {B n c m : Nat} {A : Option Addr} {t : TypeId} {xs : List Value} (h : w.ownsRow B t 1 (.slice A n c) m xs) (hx : m ≠ 0) : ∃ a, A = some a ∧ B ≤ a.block := by
 rcases h.2 with ⟨_, h0⟩ | ⟨g, cap', cur, e, hb, _⟩
 ·exact absurd h0 hx
 ·injection e with e1 _ _
  exact ⟨_, e1, hb⟩
set_option maxHeartbeats 800000 in
theorem tset_any (kid : Int) (w : World) (B tg g mb : Nat) (l m : Int) (S : List Sl) (h : TreeIs w B tg g mb l m S) (hB : B ≤ w.heap.size) (hh : Tr.has (nds S) kid = true) :
  Calls Tryz.prog 64 #[.pointer (some ⟨g, 0, none⟩), .int .i64 kid, .agg (ndC { Tr.at_ (nds S) kid with under := true } (.slice (slAt S kid).A (Tr.at_ (nds S) kid).kids.length (slAt S kid).c)).toArray] w fun e w' => e = .returned (.bool true) ∧
   (∃ S', TreeIs w' B tg g mb l m S' ∧ nds S' = Tr.mark (nds S) kid ∧ ∀ F, AOk F S → AOk F S') ∧ Spares writes3 w w' ∧ Below B w w' := by
 obtain ⟨s, h1, h2, h3⟩ := slAt_mem hh
 obtain ⟨v, q1, q2⟩ := h.ex
 have hx : (Tr.at_ (nds S) kid) = s.x := by rw [← slAt_x, h2]
 rw [hx, h2]
 have := setN_any kid.toNat s { s.x with under := true } w B g mb v S q2 h1 rfl
 rw [show ((kid.toNat : Nat) : Int) = kid by omega] at this
 refine this.mono ?_
 rintro e w' ⟨rfl, hA, hK⟩
 have hK3 : Keeps (g :: mb :: v.ownBlock.toList) w w' := hK.mono (fun x hx => .inl (by simp at hx; simp [hx]))
 have hS := keeps_spares3 q2 h.meter hK3
 have hM' : At w' mb 87 #[.int .i64 l, .int .i64 (costS S), .int .i64 m] := h.meter.keeps hK (fun hm => by
  have h5 : v.ownBlock = some mb := by simpa using hm
  exact own_apart q2.own h.meter (by decide) h5)
 have hnd : nds (S.set kid.toNat ⟨{ s.x with under := true }, s.A, s.c⟩) = Tr.mark (nds S) kid := by
  have := nds_low h1
  rw [show ((kid.toNat : Nat) : Int) = kid by omega] at this
  exact this
 have hc : costS (S.set kid.toNat ⟨{ s.x with under := true }, s.A, s.c⟩) = costS S := by
  unfold costS
  rw [hnd, Tr.cost_mark]
 refine ⟨rfl, ⟨_, ⟨⟨v, q1.spares hS (by decide), hA⟩, h.low, by rw [hc]; exact hM', fun q hq => ?_, by rw [hc]; exact h.room, fun q hq => ?_⟩, hnd, fun F hF q hq hn => ?_⟩, hS, keeps_below3 q2 h.low.2.1 h.low.2.2 hB hK3⟩
 ·rcases List.mem_or_eq_of_mem_set hq with hq | rfl
  ·exact (h.kids q hq).stay (stay_spares hS (by decide))
  ·exact (h.kids s (List.mem_of_getElem? h1)).stay (stay_spares hS (by decide))
 ·rcases List.mem_or_eq_of_mem_set hq with hq | rfl
  ·exact h.len q hq
  ·exact h.len s (List.mem_of_getElem? h1)
 ·rcases List.mem_or_eq_of_mem_set hq with hq | rfl
  ·exact hF q hq hn
  ·exact hF s (List.mem_of_getElem? h1) hn
def nodeSl (rule sym : Int) (ks : List Int) (A : Option Addr) (c : Nat) : Sl := ⟨Tr.nodeOf rule sym ks, A, c⟩
set_option maxHeartbeats 16000000 in
theorem tnode_own (F : Option Addr → Prop) (rule sym : Int) (A : Option Addr) (n c : Nat) (ks : List Int) (w : World) (B tg g mb : Nat) (l m : Int) (S : List Sl) (h : TreeIs w B tg g mb l m S) (hB : B ≤ w.heap.size) (hl : ks.length = n) (hKS : ∀ w', Spares writes3 w w' → Below B w w' → Cl w' w'.heap.size A (vals ks)) (hn : n ≤ 1000000) (hF : AOk F S) (hF2 : ∀ a : Addr, w.heap.size ≤ a.block → F (some a)) :
  Calls Tryz.prog 37 #[.pointer (some ⟨tg, 0, none⟩), .int .i64 rule, .int .i64 sym, .slice A n c] w fun e w' => e = .returned (.tuple #[.int .i64 (Tr.node l (nds S) rule sym ks).n, .int .i64 (Tr.node l (nds S) rule sym ks).e]) ∧ DoneF F w w' B tg g mb l (Tr.node l (nds S) rule sym ks).L := by
 have hL := hKS w (Spares.refl _ _) (Below.refl _ _)
 have HKS := Lib.hid hKS
 clear hKS
 have HF := Lib.hid hF
 have HF2 := Lib.hid hF2
 clear hF hF2
 have HT := Lib.hid h
 have HL := Lib.hid hL
 have HLEN := Lib.hid hl
 have HWR := Lib.hid (twrong_any A n c ks w B tg g mb l m S h hl hL hn)
 obtain ⟨AN, hAN⟩ : ∃ x, Tr.node l (nds S) rule sym ks = x := ⟨_, rfl⟩
 rw [hAN]
 have HAN := Lib.hid hAN
 clear h hL hl hAN
 by_cases hw0 : Tr.wrong (nds S) ks = 0
 case neg =>
  have hne : ((Tr.wrong (nds S) ks) == 0) = false := by simpa using hw0
  have HA := Lib.hid (show AN = ⟨0, Tr.wrong (nds S) ks, nds S⟩ by rw [← HAN.out]; unfold Tr.node; rw [if_neg hw0])
  obtain ⟨WR, hWR⟩ : ∃ x, Tr.wrong (nds S) ks = x := ⟨_, rfl⟩
  rw [hWR] at HWR hw0 HA hne
  clear hWR
  go_enter Tryz.func37, Tryz.ntmps37
  go_wp2_with fail
  refine HWR.out.mono ?_
  rintro e w1 ⟨rfl, hb1⟩
  have HB1 := Lib.hid hb1
  clear hb1
  go_wp2_with fail
  go_ret2
  rw [HA.out]
  exact ⟨rfl, ⟨m, S, HT.out.below HB1.out, rfl, HF.out⟩, (Spares.refl _ _).trans ⟨HB1.out.size, fun k cs t _ hk => HB1.out.block k (Array.getElem?_eq_some_iff.1 hk).1 ▸ hk⟩, HB1.out.mono hB⟩
 case pos =>
 have HHAS := Lib.hid (Tr.wrong_has hw0)
 rw [hw0] at HWR
 obtain ⟨PL, hPL⟩ : ∃ L, nds S = L := ⟨_, rfl⟩
 have HPL := Lib.hid hPL
 clear hPL
 go_enter Tryz.func37, Tryz.ntmps37
 go_wp2_with fail
 refine HWR.out.mono ?_
 rintro e w1 ⟨rfl, hb1⟩
 have HB1 := Lib.hid hb1
 have HT1 := Lib.hid (HT.out.below hb1)
 have HL1 := Lib.hid (HL.out.up hb1)
 have hs1 := hb1.size
 clear hb1 HWR
 go_wp2_with fail
 have x0 := (HT1.out.at_).cell 0
 simp at x0
 have htl := HT1.out.at_.lt
 have hwr : IntKind.i64.wrap (1 + (n : Int)) = 1 + (n : Int) := by rw [IntKind.wrap_i64]; omega
 have hz0 : Below w1.heap.size w1 w1.drew := below_drew (Below.refl _ _)
 have hy0 : (w1.drew).cell? ⟨tg, 0, none⟩ = some (.pointer (some ⟨g, 0, none⟩)) := x0
 have HCL := Lib.hid (cloneC_any A n c ks w1.drew HLEN.out (HL1.out.up (below_drew (Below.refl _ _))) (by omega))
 refine Zed.begin_ (fun w' => w'.cell? ⟨tg, 0, none⟩ = some (.pointer (some ⟨g, 0, none⟩))) [] (by kernel_rfl) ?_
 refine Zd.pureD (i := 0) (d := some 23) (v := ?vn0) rfl rfl (by kernel_rfl) (by kernel_rfl) (by kernel_rfl) (by kernel_rfl) (by kernel_rfl) (fun _ _ _ h => h) (Or.inl ⟨by kernel_rfl, ?hyn0⟩) (.inr hy0) ?restn0
 case hyn0 => (intro w _; go_simp; try with_reducible rfl)
 try simp only [Act.put, List.setIfInBounds_toArray, List.set_cons_zero, List.set_cons_succ]
 refine Zd.pureD (i := 1) (d := some 24) (v := ?vn1) rfl rfl (by kernel_rfl) (by kernel_rfl) (by kernel_rfl) (by kernel_rfl) (by kernel_rfl) (fun _ _ _ h => h) (Or.inl ⟨by kernel_rfl, ?hyn1⟩) (.inr hy0) ?restn1
 case hyn1 => (intro w _; go_simp; try with_reducible rfl)
 try simp only [Act.put, List.setIfInBounds_toArray, List.set_cons_zero, List.set_cons_succ]
 refine Zd.pureD (i := 2) (d := some 25) (v := ?vn2) rfl rfl (by kernel_rfl) (by kernel_rfl) (by kernel_rfl) (by kernel_rfl) (by kernel_rfl) (fun _ _ _ h => h) (Or.inl ⟨by kernel_rfl, ?hyn2⟩) (.inr hy0) ?restn2
 case hyn2 => (intro w _; go_simp; try with_reducible rfl)
 try simp only [Act.put, List.setIfInBounds_toArray, List.set_cons_zero, List.set_cons_succ]
 refine Zd.takeD (i := 3) (d := some 26) (v := ?vn3) rfl rfl (by kernel_rfl) (by kernel_rfl) (by kernel_rfl) (by kernel_rfl) (by kernel_rfl) (fun _ _ _ h => h) (Or.inl ⟨by kernel_rfl, ?hyn3⟩) hy0 ?restn3
 case hyn3 => (intro w hSw; (try dsimp only at hSw); have hc := hSw; go_simp; try with_reducible rfl)
 try simp only [Act.put, List.setIfInBounds_toArray, List.set_cons_zero, List.set_cons_succ]
 refine Zd.pureD (i := 4) (d := some 27) (v := ?vn4) rfl rfl (by kernel_rfl) (by kernel_rfl) (by kernel_rfl) (by kernel_rfl) (by kernel_rfl) (fun _ _ _ h => h) (Or.inl ⟨by kernel_rfl, ?hyn4⟩) (.inr hy0) ?restn4
 case hyn4 => (intro w _; go_simp; try with_reducible rfl)
 try simp only [Act.put, List.setIfInBounds_toArray, List.set_cons_zero, List.set_cons_succ]
 refine Zd.pureD (i := 5) (d := some 28) (v := ?vn5) rfl rfl (by kernel_rfl) (by kernel_rfl) (by kernel_rfl) (by kernel_rfl) (by kernel_rfl) (fun _ _ _ h => h) (Or.inl ⟨by kernel_rfl, ?hyn5⟩) (.inr hy0) ?restn5
 case hyn5 => (intro w _; go_simp; try with_reducible rfl)
 try simp only [Act.put, List.setIfInBounds_toArray, List.set_cons_zero, List.set_cons_succ]
 refine Zd.pureD (i := 6) (d := some 29) (v := ?vn6) rfl rfl (by kernel_rfl) (by kernel_rfl) (by kernel_rfl) (by kernel_rfl) (by kernel_rfl) (fun _ _ _ h => h) (Or.inl ⟨by kernel_rfl, ?hyn6⟩) (.inr hy0) ?restn6
 case hyn6 => (intro w _; go_simp; try with_reducible rfl)
 try simp only [Act.put, List.setIfInBounds_toArray, List.set_cons_zero, List.set_cons_succ]
 refine Zd.pureD (i := 9) (d := some 32) (v := ?vn9) rfl rfl (by kernel_rfl) (by kernel_rfl) (by kernel_rfl) (by kernel_rfl) (by kernel_rfl) (fun _ _ _ h => h) (Or.inl ⟨by kernel_rfl, ?hyn9⟩) (.inr hy0) ?restn9
 case hyn9 => (intro w _; go_simp; try with_reducible rfl)
 try simp only [Act.put, List.setIfInBounds_toArray, List.set_cons_zero, List.set_cons_succ]
 refine Zd.pureD (i := 10) (d := some 33) (v := ?vn10) rfl rfl (by kernel_rfl) (by kernel_rfl) (by kernel_rfl) (by kernel_rfl) (by kernel_rfl) (fun _ _ _ h => h) (Or.inl ⟨by kernel_rfl, ?hyn10⟩) (.inr hy0) ?restn10
 case hyn10 => (intro w _; go_simp; try with_reducible rfl)
 try simp only [Act.put, List.setIfInBounds_toArray, List.set_cons_zero, List.set_cons_succ]
 refine Zd.pureD (i := 11) (d := some 34) (v := ?vn11) rfl rfl (by kernel_rfl) (by kernel_rfl) (by kernel_rfl) (by kernel_rfl) (by kernel_rfl) (fun _ _ _ h => h) (Or.inl ⟨by kernel_rfl, ?hyn11⟩) (.inr hy0) ?restn11
 case hyn11 => (intro w _; go_simp; try with_reducible rfl)
 try simp only [Act.put, List.setIfInBounds_toArray, List.set_cons_zero, List.set_cons_succ]
 refine Zd.call (i := 7) (d := some 30) (by kernel_rfl) rfl rfl (by kernel_rfl) (by kernel_rfl) HCL.out ?_
 rintro e w2 ⟨A2, c2, rfl, ho2, hb2⟩
 have hz1 : Below w1.heap.size w1 w2 := hz0.trans hb2
 have HO2 := Lib.hid (Lie.own ho2)
 have HA2 := Lib.hid (show ks ≠ [] → F A2 from fun hk => by
  obtain ⟨a, e, h5⟩ := own_from ho2 (by have := HLEN.out; cases ks <;> simp_all <;> omega)
  rw [e]; exact HF2.out a (Nat.le_trans hs1 h5))
 clear ho2 hb2 HCL
 refine ⟨_, rfl, (hz1.cell (p := ⟨tg, 0, none⟩) htl).trans x0, ?_⟩
 try simp only [Act.put, List.setIfInBounds_toArray, List.set_cons_zero, List.set_cons_succ]
 refine Zd.pureD (i := 8) (d := some 31) (v := ?vn8) rfl rfl (by kernel_rfl) (by kernel_rfl) (by kernel_rfl) (by kernel_rfl) (by kernel_rfl) (fun _ _ _ h => h) (Or.inl ⟨by kernel_rfl, ?hyn8⟩) (.inr ((hz1.cell (p := ⟨tg, 0, none⟩) htl).trans x0)) ?restn8
 case hyn8 => (intro w _; go_simp; try with_reducible rfl)
 try simp only [Act.put, List.setIfInBounds_toArray, List.set_cons_zero, List.set_cons_succ]
 have hput := tput_any (nodeSl rule sym ks A2 c2) w2 B tg g mb l m S (HT1.out.below hz1) (Nat.le_trans hB (Nat.le_trans hs1 hz1.size)) HO2.out (by show ks.length ≤ 1000000; rw [HLEN.out]; exact hn)
 rw [show (nodeSl rule sym ks A2 c2).nd = [.bool false, .bool false, .int .i64 rule, .int .i64 sym, .int .i64 0, .int .i64 0, .int .i64 0, .slice A2 ks.length c2] from rfl, show (1 + ((nodeSl rule sym ks A2 c2).x.kids.length : Int)) = 1 + (ks.length : Int) from rfl, HLEN.out] at hput
 refine Zd.call (i := 12) (d := some 35) (by kernel_rfl) rfl rfl (by kernel_rfl) (by kernel_rfl) hput ?_
 rintro e w3 ⟨rfl, hT3, hS3, hb3⟩
 have hz2 : w3.cell? ⟨tg, 0, none⟩ = some (.pointer (some ⟨g, 0, none⟩)) := by
  obtain ⟨m3, ht3⟩ := hT3
  simpa using ht3.at_.cell 0
 have HTP := Lib.hid hT3
 have hsp12 : Spares writes3 w w2 := ⟨Nat.le_trans hs1 hz1.size, fun k cs t _ hk => by
  have q1 : (w1.heap[k]? = some (.cells cs t (0, 0))) := (HB1.out.block k (Array.getElem?_eq_some_iff.1 hk).1).trans hk
  exact (hz1.block k (Array.getElem?_eq_some_iff.1 q1).1).trans q1⟩
 have HSP := Lib.hid (hsp12.trans hS3)
 have HBP := Lib.hid (((HB1.out.mono hB).trans (hz1.mono (Nat.le_trans hB hs1))).trans hb3)
 clear hT3 hS3 hb3 hput hsp12
 refine ⟨_, rfl, hz2, ?_⟩
 try simp only [Act.put, List.setIfInBounds_toArray, List.set_cons_zero, List.set_cons_succ]
 refine Zd.pureD (i := 13) (d := some 22) (v := ?vn13) rfl rfl (by kernel_rfl) (by kernel_rfl) (by kernel_rfl) (by kernel_rfl) (by kernel_rfl) (fun _ _ _ h => h) (Or.inl ⟨by kernel_rfl, ?hyn13⟩) (.inr hz2) ?restn13
 case hyn13 => (intro w _; go_simp; try with_reducible rfl)
 try simp only [Act.put, List.setIfInBounds_toArray, List.set_cons_zero, List.set_cons_succ]
 refine Zd.pureD (i := 14) (d := some 36) (v := ?vn14) rfl rfl (by kernel_rfl) (by kernel_rfl) (by kernel_rfl) (by kernel_rfl) (by kernel_rfl) (fun _ _ _ h => h) (Or.inl ⟨by kernel_rfl, ?hyn14⟩) (.inr hz2) ?restn14
 case hyn14 => (intro w _; go_simp; try with_reducible rfl)
 try simp only [Act.put, List.setIfInBounds_toArray, List.set_cons_zero, List.set_cons_succ]
 refine Zd.pureD (i := 15) (d := some 37) (v := ?vn15) rfl rfl (by kernel_rfl) (by kernel_rfl) (by kernel_rfl) (by kernel_rfl) (by kernel_rfl) (fun _ _ _ h => h) (Or.inl ⟨by kernel_rfl, ?hyn15⟩) (.inr hz2) ?restn15
 case hyn15 => (intro w _; go_simp; try with_reducible rfl)
 try simp only [Act.put, List.setIfInBounds_toArray, List.set_cons_zero, List.set_cons_succ]
 refine Zd.pureD (i := 16) (d := some 11) (v := ?vn16) rfl rfl (by kernel_rfl) (by kernel_rfl) (by kernel_rfl) (by kernel_rfl) (by kernel_rfl) (fun _ _ _ h => h) (Or.inl ⟨by kernel_rfl, ?hyn16⟩) (.inr hz2) ?restn16
 case hyn16 => (intro w _; go_simp; try with_reducible rfl)
 try simp only [Act.put, List.setIfInBounds_toArray, List.set_cons_zero, List.set_cons_succ]
 refine Zd.pureD (i := 17) (d := some 12) (v := ?vn17) rfl rfl (by kernel_rfl) (by kernel_rfl) (by kernel_rfl) (by kernel_rfl) (by kernel_rfl) (fun _ _ _ h => h) (Or.inl ⟨by kernel_rfl, ?hyn17⟩) (.inr hz2) ?restn17
 case hyn17 => (intro w _; go_simp; try with_reducible rfl)
 try simp only [Act.put, List.setIfInBounds_toArray, List.set_cons_zero, List.set_cons_succ]
 refine Zed.all (by kernel_rfl) ?_ _
 clear hz0 hz1 hz2
 cases hq : decide (l - costS S < 1 + (n : Int)) with
 | true =>
  have hq' := of_decide_eq_true hq
  have HA := Lib.hid (show AN = ⟨0, 5, nds S⟩ by rw [← HAN.out]; unfold Tr.node; rw [if_pos hw0, if_pos (by rw [HLEN.out]; exact hq')])
  have hpa : putAns l S (nodeSl rule sym ks A2 c2) = (0, 5, S) := by unfold putAns; rw [if_pos (by show l - costS S < 1 + (ks.length : Int); rw [HLEN.out]; exact hq')]
  rw [hpa] at HTP ⊢
  clear hq hq' hpa
  go_wp2_with fail
  go_ret2
  rw [HA.out]
  obtain ⟨m', ht⟩ := HTP.out
  exact ⟨rfl, ⟨m', S, ht, rfl, HF.out⟩, HSP.out, HBP.out⟩
 | false =>
  have hq' : ¬ l - costS S < 1 + (n : Int) := of_decide_eq_false hq
  have HA := Lib.hid (show AN = ⟨(nds S).length, 0, Tr.marks (nds S) ks ++ [Tr.nodeOf rule sym ks]⟩ by rw [← HAN.out]; unfold Tr.node; rw [if_pos hw0, if_neg (by rw [HLEN.out]; exact hq')])
  have hpa : putAns l S (nodeSl rule sym ks A2 c2) = ((S.length : Int), 0, S ++ [nodeSl rule sym ks A2 c2]) := by unfold putAns; rw [if_neg (by show ¬ l - costS S < 1 + (ks.length : Int); rw [HLEN.out]; exact hq')]
  rw [hpa] at HTP ⊢
  have HN1 := Lib.hid (show nds (S ++ [nodeSl rule sym ks A2 c2]) = nds S ++ [Tr.nodeOf rule sym ks] from nds_append _ _)
  obtain ⟨NL, hNL⟩ : ∃ NL, S.length = NL := ⟨_, rfl⟩
  rw [hNL]
  have HNL := Lib.hid (show ((nds S).length : Int) = (NL : Int) by rw [nds_len, hNL])
  clear hq hq' hpa hNL
  go_wp2_with fail
  go_loopw [43] (fun i wr => ∃ j : Nat, j ≤ n ∧ i = .int .i64 (j : Int) ∧ (∃ m' S', TreeIs wr B tg g mb l m' S' ∧ nds S' = Tr.marks (nds S ++ [Tr.nodeOf rule sym ks]) (ks.take j) ∧ AOk F S') ∧ Spares writes3 w wr ∧ Below B w wr) (fun i _ => n - (intOf i).toNat)
  case atStart => exact ⟨0, by omega, rfl, (by obtain ⟨m', ht⟩ := HTP.out; exact ⟨m', _, ht, HN1.out, fun s hs hn => by
   rcases List.mem_append.1 hs with hs | hs
   ·exact HF.out s hs hn
   ·simp at hs; subst hs; exact HA2.out hn⟩), HSP.out, HBP.out⟩
  case round =>
   obtain ⟨j, hj, rfl, ⟨mr, Sr, hT, hN, hFr⟩, hS, hb⟩ := hrel
   have HTR := Lib.hid hT
   have HNR := Lib.hid hN
   have HFR := Lib.hid hFr
   clear hFr
   have HSR := Lib.hid hS
   have HBR := Lib.hid hb
   clear hT hN hS hb
   by_cases hlt : j < n
   ·obtain ⟨x, hx⟩ : ∃ x, ks[j]? = some x := ⟨_, List.getElem?_eq_getElem (by rw [HLEN.out]; exact hlt)⟩
    obtain ⟨b, o, rfl, hbl, hc⟩ := cl_at (HKS.out wr HSR.out HBR.out) hx
    have HX := Lib.hid hx
    have hji : (j : Int) < (n : Int) := by omega
    have hj0 : (0 : Int) ≤ (j : Int) := by omega
    have hhx : Tr.has (nds Sr) x = true := by
     rw [HNR.out]
     have h1 := HHAS.out x (List.mem_of_getElem? hx)
     have := Tr.has_true h1
     unfold Tr.has
     rw [Tr.marks_length, List.length_append]
     exact decide_eq_true (by simp; omega)
    have HAT := Lib.hid (tat_parts x wr B tg g mb l mr Sr HTR.out)
    have hsr : B ≤ wr.heap.size := Nat.le_trans hB HBR.out.size
    have HSET := Lib.hid (fun w' (hb : Below wr.heap.size wr w') => tset_any x w' B tg g mb l mr Sr (HTR.out.below hb) (Nat.le_trans hsr hb.size) hhx)
    have t0 := HTR.out.at_.cell 0
    have htr := HTR.out.at_.lt
    simp at t0
    clear hx hhx
    obtain ⟨⟨y0, y1, y2, y3, ⟨y4, y5, y6⟩, y7⟩, hY⟩ : ∃ y, Tr.at_ (nds Sr) x = y := ⟨_, rfl⟩
    rw [hY] at HAT HSET
    dsimp only [ndC] at HAT HSET
    generalize y7.length = yn at HAT HSET
    generalize (slAt Sr x).A = ya at HAT HSET
    generalize (slAt Sr x).c = yc at HAT HSET
    clear hY
    go_wp2_with fail
    refine HAT.out.mono ?_
    rintro e w2 ⟨rfl, hb2⟩
    have HB2 := Lib.hid hb2
    have hs2 := hb2.size
    clear hb2 HAT
    go_wp2_with fail
    obtain ⟨W3, hW3⟩ : ∃ W, (w2.alloc (.cells #[.bool y0, .bool true, .int .i64 y2, .int .i64 y3, .int .i64 y4, .int .i64 y5, .int .i64 y6, .slice ya yn yc] 91)) = W := ⟨_, rfl⟩
    rw [hW3]
    have hb3 : Below wr.heap.size wr W3 := by rw [← hW3]; exact HB2.out.alloc hs2 _
    have hR3 : At W3 w2.heap.size 91 #[.bool y0, .bool true, .int .i64 y2, .int .i64 y3, .int .i64 y4, .int .i64 y5, .int .i64 y6, .slice ya yn yc] := by rw [← hW3]; exact At.new _ _ _
    have u0 := (hb3.cell (p := ⟨tg, 0, none⟩) htr).trans t0
    have r0 := hR3.cell 0
    have r1 := hR3.cell 1
    have r2 := hR3.cell 2
    have r3 := hR3.cell 3
    have r4 := hR3.cell 4
    have r5 := hR3.cell 5
    have r6 := hR3.cell 6
    have r7 := hR3.cell 7
    simp only [List.getElem?_toArray, List.getElem?_cons_zero, List.getElem?_cons_succ] at r0 r1 r2 r3 r4 r5 r6 r7
    have HB3 := Lib.hid hb3
    clear hW3 hR3 hb3
    have hset := HSET.out W3.drew (below_drew HB3.out)
    have hsp3 : Spares writes3 wr W3.drew := ⟨(below_drew HB3.out).size, fun k cs t _ hk => ((below_drew HB3.out).block k (Array.getElem?_eq_some_iff.1 hk).1).trans hk⟩
    go_region_with (go_at_call 64; refine hset.mono ?_; rintro e w4 ⟨rfl, ⟨S4, hT4, hN4, hF4⟩, hS4, hb4⟩; have HF4 := Lib.hid (hF4 F HFR.out); clear hF4; have HT4 := Lib.hid hT4; have HN4 := Lib.hid (show nds S4 = Tr.marks (nds S ++ [Tr.nodeOf rule sym ks]) (ks.take (j + 1)) by rw [hN4, HNR.out, ← Tr.marks_snoc, List.take_add_one, HX.out]; rfl); have HS4 := Lib.hid (HSR.out.trans (hsp3.trans hS4)); have HB4 := Lib.hid (HBR.out.trans (((below_drew HB3.out).mono hsr).trans hb4)); clear hT4 hN4 hS4 hb4)
    all_goals
     clear hset hsp3
     go_wp2_with fail
     go_roundw
     case rel => exact ⟨j + 1, by omega, by go_num, ⟨mr, S4, HT4.out, HN4.out, HF4.out⟩, HS4.out, HB4.out⟩
     case measure => simp [intOf]; omega
   ·obtain rfl : j = n := by omega
    have hall : ks.take j = ks := List.take_of_length_le (by rw [HLEN.out]; exact Nat.le_refl _)
    rw [hall, Tr.marks_append _ _ _ HHAS.out] at HNR
    clear hall hlt
    go_wp2_with fail
    go_ret2
    rw [HA.out]
    exact ⟨by rw [HNL.out]; rfl, ⟨mr, Sr, HTR.out, HNR.out, HFR.out⟩, HSR.out, HBR.out⟩
theorem tnode_any (rule sym : Int) (A : Option Addr) (n c : Nat) (ks : List Int) (w : World) (B tg g mb : Nat) (l m : Int) (S : List Sl) (h : TreeIs w B tg g mb l m S) (hB : B ≤ w.heap.size) (hl : ks.length = n) (hL : Lie w 3 A (vals ks)) (hn : n ≤ 1000000) :
  Calls Tryz.prog 37 #[.pointer (some ⟨tg, 0, none⟩), .int .i64 rule, .int .i64 sym, .slice A n c] w fun e w' => e = .returned (.tuple #[.int .i64 (Tr.node l (nds S) rule sym ks).n, .int .i64 (Tr.node l (nds S) rule sym ks).e]) ∧ Done w w' B tg g mb l (Tr.node l (nds S) rule sym ks).L :=
 (tnode_own (fun _ => True) rule sym A n c ks w B tg g mb l m S h hB hl (fun w' hs _ => (hL.stay (stay_spares hs (by decide))).cl) hn (fun _ _ _ => trivial) (fun _ _ => trivial)).mono fun _ _ ⟨h1, h2⟩ => ⟨h1, h2.done⟩
set_option maxHeartbeats 1600000 in
theorem treset_any (w : World) (B tg g mb : Nat) (l m : Int) (S : List Sl) (h : TreeIs w B tg g mb l m S) (hB : B ≤ w.heap.size) :
  Calls Tryz.prog 45 #[.pointer (some ⟨tg, 0, none⟩)] w fun e w' => e = .returned (.int .i64 (Tr.cost (nds S))) ∧ Done w w' B tg g mb l [] := by
 obtain ⟨v, h1, h2⟩ := h.ex
 have c0 := h1.cell 0
 simp at c0
 have HC := Lib.hid (cutN_any w B g mb v S l m h2 h.meter h.room hB)
 have HH := Lib.hid h
 have H1 := Lib.hid h1
 have H2 := Lib.hid h2
 rw [show costS S = Tr.cost (nds S) from rfl] at HC
 generalize Tr.cost (nds S) = CS at HC ⊢
 clear h h1 h2
 go_enter Tryz.func45, Tryz.ntmps45
 go_wp2_with fail
 refine HC.out.mono ?_
 rintro e w1 ⟨rfl, v', hA, hM, hK⟩
 have HA := Lib.hid hA
 have HM := Lib.hid hM
 have HK := Lib.hid hK
 clear hA hM hK
 go_wp2_with fail
 go_ret
 have hS := keeps_spares3 H2.out HH.out.meter HK.out
 have hr := HH.out.room
 have hc := costS_nonneg S
 exact ⟨rfl, ⟨m, [], ⟨⟨v', H1.out.spares hS (by decide), HA.out⟩, HH.out.low, HM.out, fun q hq => absurd hq (by simp), ⟨by rw [costS_nil]; omega, hr.2⟩, fun q hq => absurd hq (by simp)⟩, rfl⟩, hS, keeps_below3 H2.out HH.out.low.2.1 HH.out.low.2.2 hB HK.out⟩
end Go.Proofs.YtdhhkancbgealaaGreat
