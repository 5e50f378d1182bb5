import Derived.Test.YtdhhkancbgealaaGreatT31
namespace Go.Proofs.YtdhhkancbgealaaGreat
open Go.RowKit Go.Shelf
open Lx
set_option linter.unusedVariables false
set_option linter.unusedSimpArgs false
set_option maxRecDepth 100000
def Sl.rc (s : Sl) : List Value := [.bool s.x.leaf, .int .i64 s.x.rule, .int .i64 s.x.sym, .int .i64 s.x.tok.t, .int .i64 s.x.tok.a, .int .i64 s.x.tok.b, s.kv, .bool s.x.under]
theorem Sl.rc_len (s : Sl) : s.rc.length = 8 := rfl
def flatR (S : List Sl) : List Value := S.flatMap Sl.rc
theorem flatR_at {S : List Sl} {k r : Nat} {s : Sl} (h : S[k]? = some s) (hr : r < 8) : (flatR S)[k * 8 + r]? = s.rc[r]? := flatN_at Sl.rc 8 Sl.rc_len S k r s h hr
theorem infoRef : (Tryz.prog.info? 56).map (fun i => (i.zero, i.size, i.bytes)) = some (some (.agg #[.bool false, .int .i64 0, .int .i64 0, .int .i64 0, .int .i64 0, .int .i64 0, .slice none 0 0, .bool false]), 8, 80) := by kernel_rfl
structure RefIs (w : World) (B rt rm : Nat) (l m : Int) (v : Value) (S : List Sl) : Prop where
 at_ : At w rt 47 #[.pointer (some ⟨rm, 0, none⟩), v]
 own : w.ownsRow B 56 8 v S.length (flatR S)
 low : B ≤ rt ∧ B ≤ rm
 meter : At w rm 44 #[.int .i64 l, .int .i64 (costS S), .int .i64 m]
 kids : ∀ s ∈ S, Lie w 3 s.A (vals s.x.kids)
 room : costS S ≤ l ∧ l ≤ 1099511627776
 len : ∀ s ∈ S, s.x.kids.length ≤ 1000000
def refT : List TypeId := [47, 56, 44]
section
variable {w w' : World} {B rt rm : Nat} {l m : Int} {v : Value} {S : List Sl}
theorem RefIs.below (h : RefIs w B rt rm l m v S) (hb : Below w.heap.size w w') : RefIs w' B rt rm l m v S :=
 ⟨h.at_.below hb h.at_.lt, own_below h.own hb (fun k hk => (h.own.lt k hk).2), h.low, h.meter.below hb h.meter.lt, fun s hs => (h.kids s hs).below hb, h.room, h.len⟩
theorem RefIs.spares {ts : List TypeId} (h : RefIs w B rt rm l m v S) (hs : Spares ts w w') (ht : ∀ t ∈ refT, t ∉ ts) (hi : 3 ∉ ts) : RefIs w' B rt rm l m v S :=
 ⟨h.at_.spares hs (ht _ (by simp [refT])), own_spares h.own hs (ht _ (by simp [refT])), h.low, h.meter.spares hs (ht _ (by simp [refT])), fun s hk => (h.kids s hk).stay (stay_spares hs hi), h.room, h.len⟩
theorem RefIs.size (h : RefIs w B rt rm l m v S) : (S.length : Int) ≤ 1099511627776 := Int.le_trans (costS_len S) (Int.le_trans h.room.1 h.room.2)
theorem RefIs.cells (h : RefIs w B rt rm l m v S) {k : Nat} {s : Sl} (hk : S[k]? = some s) :
  ∃ b cap, v = .slice (some ⟨b, 0, none⟩) S.length cap ∧ k < S.length ∧ b < w.heap.size ∧ (∀ r u, r < 8 → s.rc[r]? = some u → w.cell? ⟨b, k * 8 + r, none⟩ = some u) ∧ ∀ j, w.frozen? ⟨b, j, none⟩ = false := by
 have hlt : k < S.length := (List.getElem?_eq_some_iff.1 hk).1
 rcases own_shape h.own with ⟨rfl, e, _⟩ | ⟨b, cap, rfl, h1, h2, h3, h4⟩
 ·omega
 ·refine ⟨b, cap, rfl, hlt, h4, ?_, fun j => h.own.frozenAt j⟩
  intro r u hr hu
  rw [h.own.cellAt (k * 8 + r) (by omega), flatR_at hk hr]; exact hu
end
structure RDone (w w' : World) (B rt rm : Nat) (l : Int) (L : List Tr.Nd) : Prop where
 tree : ∃ m v S, RefIs w' B rt rm l m v S ∧ nds S = L
 spares : Spares refT w w'
 below : Below B w w'
theorem costS_take (S : List Sl) (j : Nat) (s : Sl) (h : S[j]? = some s) : costS (S.take (j + 1)) = costS (S.take j) + (1 + (s.x.kids.length : Int)) := by
 unfold costS nds
 rw [List.take_add_one, h, List.map_append, Tr.cost_append]
 congr 1
theorem costS_le (S : List Sl) (j : Nat) : 0 ≤ costS (S.take j) ∧ costS (S.take j) ≤ costS S := by
 have h0 := costS_len (S.take j)
 have h1 := costS_len (S.drop j)
 have h2 : costS S = costS (S.take j) + costS (S.drop j) := by
  unfold costS nds
  rw [← Tr.cost_append, ← List.map_append, List.take_append_drop]
 omega
set_option maxHeartbeats 4000000 in
theorem rcells_any (w : World) (B rt rm : Nat) (l m : Int) (v : Value) (S : List Sl) (h : RefIs w B rt rm l m v S) :
  Calls Tryz.prog 17 #[.pointer (some ⟨rt, 0, none⟩)] w fun e w' => e = .returned (.int .i64 (Tr.cost (nds S))) ∧ Below w.heap.size w w' := by
 obtain ⟨ao, cap, rfl⟩ := own_form h.own
 have c1 := h.at_.cell 1
 simp only [List.getElem?_toArray, List.getElem?_cons_zero, List.getElem?_cons_succ] at c1
 have HC := Lib.hid (fun (k : Nat) (s : Sl) (hk : S[k]? = some s) => h.cells hk)
 have hn := h.size
 have HCO := Lib.hid h.room
 obtain ⟨N, hN⟩ : ∃ N, S.length = N := ⟨_, rfl⟩
 rw [hN] at c1 hn HC
 have HN := Lib.hid hN
 clear h hN
 go_enter Tryz.func17, Tryz.ntmps17
 go_wp2_with fail
 go_loopw [4, 3] (fun i acc wr => ∃ j : Nat, j ≤ N ∧ i = .int .i64 (j : Int) ∧ acc = .int .i64 (costS (S.take j)) ∧ ∃ q, wr = w.drewN q) (fun i _ _ => N - (intOf i).toNat)
 case atStart => exact ⟨0, by omega, rfl, rfl, 0, rfl⟩
 case round =>
  obtain ⟨j, hj, rfl, rfl, q, rfl⟩ := hrel
  by_cases hlt : j < N
  ·obtain ⟨s, hs⟩ : ∃ s, S[j]? = some s := ⟨_, List.getElem?_eq_getElem (by rw [HN.out]; exact hlt)⟩
   obtain ⟨b, cap', e, _, hbl, hcl, hfz⟩ := HC.out j s hs
   simp only [Value.slice.injEq] at e
   obtain ⟨rfl, _, _⟩ := e
   have y6 := hcl 6 s.kv (by omega) rfl
   unfold Sl.kv at y6
   have hct := costS_take S j s hs
   have hcl0 := costS_le S j
   have hcl1 := costS_le S (j + 1)
   have hroom := HCO.out
   obtain ⟨kn, hkn⟩ : ∃ kn, s.x.kids.length = kn := ⟨_, rfl⟩
   rw [hkn] at y6 hct
   obtain ⟨cj, hcj⟩ : ∃ c, costS (S.take j) = c := ⟨_, rfl⟩
   rw [hcj] at hct hcl0 ⊢
   have hji : (j : Int) < (N : Int) := by omega
   have hj0 : (0 : Int) ≤ (j : Int) := by omega
   have hw1 : IntKind.i64.wrap (cj + 1) = cj + 1 := by rw [IntKind.wrap_i64]; omega
   have hw2 : IntKind.i64.wrap (cj + 1 + (kn : Int)) = cj + 1 + (kn : Int) := by rw [IntKind.wrap_i64]; omega
   have HCT := Lib.hid hct
   clear hcl hfz hs hct hcl1 hkn hcj
   go_wp2_with fail
   go_roundw
   case rel => exact ⟨j + 1, by omega, by go_num, by rw [HCT.out]; congr 1; omega, _, rfl⟩
   case measure => simp [intOf]; omega
  ·obtain rfl : j = N := by omega
   have hall : S.take j = S := List.take_of_length_le (by rw [HN.out]; exact Nat.le_refl _)
   rw [hall]
   go_wp2_with fail
   go_ret
   exact ⟨rfl, below_drewN (Below.refl _ _) _⟩
theorem Lie.keepsAt {w : World} {t t' : TypeId} {A : Option Addr} {xs : List Value} {b : Nat} {cs : Array Value} (h : Lie w t A xs) (hb : At w b t' cs) (ht : t ≠ t') (o : Nat) (v : Value) : Lie (w.setCell ⟨b, o, none⟩ v) t A xs :=
 h.stay fun k ks hk => hk.keeps ((Keeps.refl [b] w).set (.inl (by simp)) v) (by simp; intro e; subst e; unfold At at hk hb; rw [hk] at hb; injection hb with hb; injection hb with _ hb; exact ht hb)
set_option maxHeartbeats 8000000 in
theorem rleaf_any (x : Tr.Tok) (w : World) (B rt rm : Nat) (l m : Int) (v : Value) (S : List Sl) (h : RefIs w B rt rm l m v S) (hB : B ≤ w.heap.size) :
  Calls Tryz.prog 42 #[.pointer (some ⟨rt, 0, none⟩), .agg #[.int .i64 x.t, .int .i64 x.a, .int .i64 x.b]] w fun e w' => e = .returned (.tuple #[.int .i64 (Tr.leaf l (nds S) x).n, .int .i64 (Tr.leaf l (nds S) x).e]) ∧ RDone w w' B rt rm l (Tr.leaf l (nds S) x).L := by
 obtain ⟨W, hW⟩ : ∃ W, w.alloc (.cells #[.int .i64 x.t, .int .i64 x.a, .int .i64 x.b] 50) = W := ⟨_, rfl⟩
 have hbw : Below w.heap.size w W := by rw [← hW]; exact (Below.refl w.heap.size w).alloc (Nat.le_refl _) _
 have hR : At W w.heap.size 50 #[.int .i64 x.t, .int .i64 x.a, .int .i64 x.b] := by rw [← hW]; exact At.new _ _ _
 have hT := h.below hbw
 have hkw : Keeps (rt :: rm :: v.ownBlock.toList) w W := by rw [← hW]; exact (Keeps.refl _ w).alloc _
 have hc0 := costS_len S
 have hrm : rt ≠ rm := by
  intro e
  have h1 := h.at_
  have h2 := h.meter
  unfold At at h1 h2
  rw [← e, h1] at h2
  simp at h2
 have hvg := own_apart h.own h.at_ (by decide)
 have hvm := own_apart h.own h.meter (by decide)
 have htk := rtake_any rm l (costS S) m 1 W hT.meter ⟨by omega, h.room.1, h.room.2⟩ ⟨by omega, by omega⟩
 have hcs := h.room
 have hszS := h.size
 have c0 := h.at_.cell 0
 simp only [List.getElem?_toArray, List.getElem?_cons_zero, List.getElem?_cons_succ] at c0
 have hgM : ∀ w1 cs, Turns W w1 rm 44 cs → At w1 rt 47 #[.pointer (some ⟨rm, 0, none⟩), v] ∧ w1.ownsRow B 56 8 v S.length (flatR S) ∧ (∀ s ∈ S, Lie w1 3 s.A (vals s.x.kids)) := fun w1 cs hT' =>
  ⟨hT'.other hT.at_ hrm, own_keeps hT.own ((Keeps.refl [rm] W).turns hT' (.inl (by simp))) (by
   intro k hk' hm
   simp at hm
   exact hvm (by rw [hk', hm])), fun s hs => (hT.kids s hs).stay (Stay.far hT.meter (by decide) hT'.grown)⟩
 have hrl : rm < w.heap.size := h.meter.lt
 have htl : rt < w.heap.size := h.at_.lt
 have hsW : W.heap.size = w.heap.size + 1 := by rw [← hW]; simp
 have htyp : ∀ q, q ∈ (rt :: rm :: v.ownBlock.toList) → ∀ cs t, At w q t cs → t ∈ refT := fun q hq cs t hh => by
  simp only [List.mem_cons, Option.mem_toList] at hq
  rcases hq with rfl | rfl | hq
  ·rw [h.at_.type hh]; simp [refT]
  ·rw [h.meter.type hh]; simp [refT]
  ·rw [own_type h.own (by simpa using hq) hh]; simp [refT]
 have hlow : ∀ q, q ∈ (rt :: rm :: v.ownBlock.toList) → B ≤ q := fun q hq => by
  simp only [List.mem_cons, Option.mem_toList] at hq
  rcases hq with rfl | rfl | hq
  ·exact h.low.1
  ·exact h.low.2
  ·exact (h.own.lt q (by simpa using hq)).1
 have HFIN := Lib.hid (show ∀ w', Keeps (rt :: rm :: v.ownBlock.toList) w w' → Spares refT w w' ∧ Below B w w' from fun w' hk => ⟨hk.spares (fun q hq cs t hh => htyp q hq cs t hh), hk.below hlow hB⟩)
 have HLOW := Lib.hid h.low
 have HLEN := Lib.hid h.len
 have HROOM := Lib.hid h.room
 have HKW := Lib.hid hkw
 have HGM := Lib.hid hgM
 have HW := Lib.hid hW
 have HRW := Lib.hid hR
 obtain ⟨ao, cap, rfl⟩ := own_form h.own
 have HVG := Lib.hid hvg
 have HVM := Lib.hid hvm
 by_cases hno : l - costS S < 1
 ·obtain ⟨q1, q2, q3⟩ := take_big (l := l) (u := costS S) (m := m) (n := 1) (by omega) hno
  rw [q1, q2, q3] at htk
  have HTK := Lib.hid htk
  have HA := Lib.hid (show Tr.leaf l (nds S) x = ⟨0, 5, nds S⟩ by unfold Tr.leaf; exact if_pos hno)
  rw [HA.out]
  clear h hW hbw hR hT hkw hvg hvm htk hgM htyp hlow hno q1 q2 q3
  go_enter Tryz.func42, Tryz.ntmps42
  go_wp2_with fail
  rw [HW.out]
  refine HTK.out.mono ?_
  rintro e w1 ⟨rfl, hT1⟩
  have HT1 := Lib.hid hT1
  clear hT1 HTK
  go_wp2_with fail
  go_ret2
  obtain ⟨k1, k2, k3⟩ := HGM.out w1 _ HT1.out
  have hk := HKW.out.turns HT1.out (.inl (by simp))
  exact ⟨rfl, ⟨m, _, S, ⟨k1, k2, HLOW.out, HT1.out.at_, k3, HROOM.out, HLEN.out⟩, rfl⟩, (HFIN.out _ hk).1, (HFIN.out _ hk).2⟩
 ·obtain ⟨q1, q2⟩ := take_ok (l := l) (u := costS S) (n := 1) (by omega) (by omega)
  rw [q1, q2] at htk
  have HTK := Lib.hid htk
  have HA := Lib.hid (show Tr.leaf l (nds S) x = ⟨(nds S).length, 0, nds S ++ [Tr.leafOf x]⟩ by unfold Tr.leaf; exact if_neg hno)
  rw [HA.out, nds_len]
  obtain ⟨N, hN⟩ : ∃ N, S.length = N := ⟨_, rfl⟩
  rw [hN] at HGM HFIN HKW HVG HVM hszS ⊢
  have HN := Lib.hid hN
  have HNO := Lib.hid hno
  obtain ⟨x1, x2, x3⟩ := x
  clear h hW hbw hR hT hkw hvg hvm htk hgM htyp hlow hno q1 q2 hN
  obtain ⟨i0, hi, hz0, hz1, hz2⟩ := info_parts infoRef
  go_enter Tryz.func42, Tryz.ntmps42
  go_wp2_with fail
  rw [HW.out]
  refine HTK.out.mono ?_
  rintro e w1 ⟨rfl, hT1⟩
  have HT1 := Lib.hid hT1
  obtain ⟨k1, k2, k3⟩ := HGM.out w1 _ hT1
  have HG1 := Lib.hid k1
  have HO1 := Lib.hid k2
  have HK3 := Lib.hid k3
  have hR1 : At w1 w.heap.size 50 _ := hT1.other HRW.out (by omega)
  have hs1 := hT1.size
  have d1 := k1.cell 1
  have r0 := hR1.cell 0
  have r1 := hR1.cell 1
  have r2 := hR1.cell 2
  simp only [List.getElem?_toArray, List.getElem?_cons_zero, List.getElem?_cons_succ] at d1 r0 r1 r2
  have hB1 : B ≤ w1.heap.size := by omega
  have c1a : ∀ o, (w1.alloc o).cell? ⟨rt, 1, none⟩ = some (.slice ao N cap) := fun o => by
   have := (HG1.out.alloc o).cell 1
   simpa using this
  have hvg := HVG.out
  clear hT1 k1 k2 k3 hR1 HTK
  go_wp2_with fail
  go_region_law (refine step_append_own6 rfl _ _ 45 rfl B 56 i0 _ 8 80 Tryz.underlying45 hi hz0 hz1 hz2 rfl (by decide) _ _ _ rfl (HO1.out.drew.alloc _) ⟨w1.heap.size, 0, none⟩ 1 1 [.bool true, .int .i64 (-1), .int .i64 x1, .int .i64 x1, .int .i64 x2, .int .i64 x3, .slice none 0 0, .bool false] rfl rfl (cells_new _ _ _) (by simp [Value.oneCell']) (by unfold maxLen; omega) (by omega) (by simp; omega) ?_; intro v' w8 hown8 hg8 hn8; obtain ⟨a8, s8, rfl⟩ := own_form hown8; have hA8 := At.grown (HG1.out.drew.alloc _) hg8 (fun e => hvg e.symm); have q1 := hA8.cell 1; have qf := hA8.frozen; simp only [List.getElem?_toArray, List.getElem?_cons_zero, List.getElem?_cons_succ] at q1)
  all_goals
   have hg9 : (w1.alloc (.cells #[.bool true, .int .i64 (-1), .int .i64 x1, .int .i64 x1, .int .i64 x2, .int .i64 x3, .slice none 0 0, .bool false] 56)).drew.grownBy w8 (Value.slice ao N cap).ownBlock := hg8
   have hM8 : At w8 rm 44 _ := ((HT1.out.at_.alloc _).drew).grown hg9 (fun e => HVM.out e.symm)
   have K8 : Keeps (rt :: rm :: (Value.slice ao N cap).ownBlock.toList) w w8 := (((HKW.out.turns HT1.out (.inl (by simp))).alloc _).drew).grown hg9 (fun k hk => .inl (by simp [hk]))
   have hk8 : ∀ s ∈ S, Lie w8 3 s.A (vals s.x.kids) := fun s hs => (((HK3.out s hs).alloc _).drew).stay (Stay.own ((HO1.out.alloc _).drew) (by decide) hg9)
   have HA8 := Lib.hid hA8
   have HM8 := Lib.hid hM8
   have HK8 := Lib.hid K8
   have HO8 := Lib.hid hown8
   have HL8 := Lib.hid hk8
   have z1 := qf 1
   have hva8 := own_apart hown8 hA8 (by decide)
   clear hg8 hg9 hown8 hA8 hM8 K8 hn8 qf d1 c1a hk8
   have HSET := Lib.hid (HA8.out.set 1 (.slice a8 (N + 1) s8))
   have e1 := HSET.out.cell 1
   simp at e1
   go_wp2_with fail
   go_ret2
   have hkf := HFIN.out _ (show Keeps (rt :: rm :: (Value.slice ao N cap).ownBlock.toList) w (w8.setCell ⟨rt, 1, none⟩ (.slice a8 (N + 1) s8)) from HK8.out.set (.inl (by simp)) _)
   have hcost : costS (S ++ [⟨Tr.leafOf ⟨x1, x2, x3⟩, none, 0⟩]) = costS S + 1 := by unfold costS nds; rw [List.map_append, Tr.cost_append]; rfl
   refine ⟨by congr 4 <;> omega, ⟨_, .slice a8 (N + 1) s8, S ++ [⟨Tr.leafOf ⟨x1, x2, x3⟩, none, 0⟩], ⟨by simpa using HSET.out, ?_, HLOW.out, by rw [hcost]; exact HM8.out.far (by simpa using hrm.symm) _, fun s hs => ?_, ⟨by rw [hcost]; have := HNO.out; omega, HROOM.out.2⟩, fun s hs => ?_⟩, by simp [nds]⟩, hkf.1, hkf.2⟩
   ·rw [List.length_append, HN.out, show flatR (S ++ [⟨Tr.leafOf ⟨x1, x2, x3⟩, none, 0⟩]) = flatR S ++ [.bool true, .int .i64 (-1), .int .i64 x1, .int .i64 x1, .int .i64 x2, .int .i64 x3, .slice none 0 0, .bool false] by simp [flatR, Sl.rc, Sl.kv, Tr.leafOf]]
    exact own_keeps HO8.out ((Keeps.refl [rt] w8).set (.inl (by simp)) _) (fun k hk hm => hva8 (by simp at hm; rw [hk, hm]))
   ·rcases List.mem_append.1 hs with hs | hs
    ·exact (HL8.out s hs).keepsAt HA8.out (by decide) 1 _
    ·simp at hs; subst hs; exact Lie.nil _ _ _
   ·rcases List.mem_append.1 hs with hs | hs
    ·exact HLEN.out s hs
    ·simp at hs; subst hs; exact Nat.zero_le _
end Go.Proofs.YtdhhkancbgealaaGreat
