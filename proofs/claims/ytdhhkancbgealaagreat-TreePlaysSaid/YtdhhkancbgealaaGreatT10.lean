import Derived.Test.YtdhhkancbgealaaGreatT09
import Derived.Lib.MinMax
import Derived.Shelf.Sort.Plain
import Derived.Shelf.Slices.In.SortNone
import Derived.Shelf.Slices.CompactI
import Derived.Shelf.Slices.Clone
import Derived.Test.YtdhhkancbgealaaGreatT01
section
namespace Go.Proofs.YtdhhkancbgealaaGreat
open Go.RowKit
open Lx
set_option linter.unusedVariables false
set_option linter.unusedSimpArgs false
set_option maxRecDepth 100000
theorem zeroSlot (w : World) : (zeroValue 139).run Tryz.prog w = .ok (.agg #[.bool false, .bool false, .int .i64 0, .int .i64 0, .int .i64 0, .int .i64 0, .int .i64 0, .slice none 0 0, .int .i64 0]) w := by kernel_rfl
theorem giveN_to (b : Nat) (l u m n : Int) (w : World) (hm : At w b 87 #[.int .i64 l, .int .i64 u, .int .i64 m]) (hb : 0 ≤ u ∧ u ≤ l ∧ l ≤ 1099511627776) (h0 : 0 ≤ n) (h1 : n ≤ u) :
  Calls Tryz.prog 87 #[.pointer (some ⟨b, 0, none⟩), .int .i64 n] w fun e w' => e = .returned (.int .i64 0) ∧ Turns w w' b 87 #[.int .i64 l, .int .i64 (u - n), .int .i64 m] := by
 refine (give_any b l u m n w hm hb (by omega)).mono ?_
 have e1 : giveCode u n = 0 := by unfold giveCode; rw [if_neg (by omega : ¬ n < 0), if_neg (by omega : ¬ u < n)]
 have e2 : giveUsed u n = u - n := by unfold giveUsed; rw [if_neg (by omega : ¬ n < 0), if_neg (by omega : ¬ u < n)]
 rw [e1, e2]
 intro e w' h
 exact h
theorem costS_nil : costS [] = 0 := rfl
theorem costS_take_succ {S : List Sl} {j : Nat} {s : Sl} (h : S[j]? = some s) : costS (S.take (j + 1)) = costS (S.take j) + (1 + (s.x.kids.length : Int)) := by
 unfold costS nds
 rw [List.take_add_one, h, List.map_append, Tr.cost_append]; rfl
theorem costS_split (S : List Sl) (j : Nat) : costS (S.take j) + costS (S.drop j) = costS S := by
 unfold costS nds
 rw [← Tr.cost_append, ← List.map_append, List.take_append_drop]
theorem costS_nonneg (S : List Sl) : 0 ≤ costS S := by have := costS_len S; omega
set_option maxHeartbeats 4000000 in
theorem cutN_any (w : World) (B g mb : Nat) (v : Value) (S : List Sl) (l m : Int) (hA : ArN w B g mb v S) (hM : At w mb 87 #[.int .i64 l, .int .i64 (costS S), .int .i64 m])
  (hb : costS S ≤ l ∧ l ≤ 1099511627776) (hBw : B ≤ w.heap.size) :
  Calls Tryz.prog 71 #[.pointer (some ⟨g, 0, none⟩), .int .i64 0] w fun e w' => e = .returned (.int .i64 (costS S)) ∧
   ∃ v', ArN w' B g mb v' [] ∧ At w' mb 87 #[.int .i64 l, .int .i64 0, .int .i64 m] ∧ Keeps (g :: mb :: v.ownBlock.toList) w w' := by
 have HA := Lib.hid hA
 have HM := Lib.hid hM
 have hgm : g ≠ mb := by
  intro e
  have h1 := hA.at_
  have h2 := hM
  unfold At at h1 h2
  rw [← e, h1] at h2
  simp at h2
 have hvg := own_apart hA.own hA.at_ (by decide)
 have hvm := own_apart hA.own hM (by decide)
 have hsz := hA.size
 have hc0 := costS_nonneg S
 have c0 := hA.at_.cell 0
 have c1 := hA.at_.cell 1
 simp at c0 c1
 have hmx0 : max (0 : Int) 0 = 0 := rfl
 by_cases hke : S = []
 ·subst hke
  have hcl : ∀ (wx : World) (a : Option Addr) (c : Nat) (ty : TypeId), (Builtin.clear_ #[126] ty #[.slice a 0 c]).run Tryz.prog wx = .ok (.tuple #[]) wx := fun wx a c ty => run_clear_empty wx _ _ ty Tryz.underlying126 a c
  have c2 := hA.at_.cell 2
  have z1 := hA.at_.frozen 1
  have z2 := hA.at_.frozen 2
  rw [costS_nil] at *
  simp at c2
  have hfin : ∀ w1, w1 = (w.setCell ⟨g, 1, none⟩ v).setCell ⟨g, 2, none⟩ (.int .i64 0) → At w1 g 128 #[.pointer (some ⟨mb, 0, none⟩), v, .int .i64 0] ∧ At w1 mb 87 #[.int .i64 l, .int .i64 0, .int .i64 m] ∧ Keeps [g] w w1 := by
   rintro w1 rfl
   exact ⟨((hA.at_.set 1 _).set 2 _).eqs (by simp), (hM.far (by simpa using hgm.symm) _).far (by simpa using hgm.symm) _, ((Keeps.refl [g] w).set (.inl (by simp)) _).set (.inl (by simp)) _⟩
  have HF := Lib.hid hfin
  have hend : ∀ w1 w2, w1 = (w.setCell ⟨g, 1, none⟩ v).setCell ⟨g, 2, none⟩ (.int .i64 0) → Turns w1 w2 mb 87 #[.int .i64 l, .int .i64 (0 - 0), .int .i64 m] →
    ∃ v', ArN w2 B g mb v' [] ∧ At w2 mb 87 #[.int .i64 l, .int .i64 0, .int .i64 m] ∧ Keeps (g :: mb :: v.ownBlock.toList) w w2 := by
   intro w1 w2 he hT
   obtain ⟨q1, q2, q3⟩ := HF.out w1 he
   have q4 : Keeps [g, mb] w w2 := (q3.mono (fun x hx => .inl (by simp at hx; simp [hx]))).turns hT (.inl (by simp))
   refine ⟨v, ⟨hT.other q1 hgm, own_keeps HA.out.own q4 ?_, by decide⟩, hT.at_, q4.mono (fun x hx => .inl (by simp at hx ⊢; rcases hx with h | h <;> simp [h]))⟩
   intro j hj hm
   simp at hm
   rcases hm with rfl | rfl
   ·exact hvg hj
   ·exact hvm hj
  have HE := Lib.hid hend
  rcases own_shape hA.own with ⟨rfl, hlen, _⟩ | ⟨b, cap, rfl, h1, h2, h3, h4⟩
  ·clear hA hM hfin hend
   go_enter Tryz.func71, Tryz.ntmps71
   go_wp2_with fail
   refine wp_loop_rounds 1 ?_
   rw [rounds_succ]
   go_wp2_with fail
   refine (giveN_to mb l 0 m 0 _ (HF.out _ rfl).2.1 ⟨by omega, by omega, hb.2⟩ (by omega) (by omega)).mono ?_
   rintro e w2 ⟨rfl, hT⟩
   have R := Lib.hid (HE.out _ _ rfl hT)
   clear hT
   go_wp2
   go_ret
   exact ⟨rfl, R.out⟩
  ·clear hA hM hfin hend
   have hmx : 0 ≤ cap := Nat.zero_le _
   have hc63 : cap ≤ 9223372036854775807 := by unfold maxLen at h2; omega
   simp only [List.length_nil] at c1 h1 hvg hvm HF HE
   clear h2 h3 h4
   by_cases hcap : cap = 0
   ·subst hcap
    go_enter Tryz.func71, Tryz.ntmps71
    go_wp2_with fail
    refine wp_loop_rounds 1 ?_
    rw [rounds_succ]
    go_wp2_with fail
    refine (giveN_to mb l 0 m 0 _ (HF.out _ rfl).2.1 ⟨by omega, by omega, hb.2⟩ (by omega) (by omega)).mono ?_
    rintro e w2 ⟨rfl, hT⟩
    have R := Lib.hid (HE.out _ _ rfl hT)
    clear hT
    go_wp2
    go_ret
    exact ⟨rfl, R.out⟩
   ·go_enter Tryz.func71, Tryz.ntmps71
    go_wp2_with fail
    refine wp_loop_rounds 1 ?_
    rw [rounds_succ]
    go_wp2_with fail
    refine (giveN_to mb l 0 m 0 _ (HF.out _ rfl).2.1 ⟨by omega, by omega, hb.2⟩ (by omega) (by omega)).mono ?_
    rintro e w2 ⟨rfl, hT⟩
    have R := Lib.hid (HE.out _ _ rfl hT)
    clear hT
    go_wp2
    go_ret
    exact ⟨rfl, R.out⟩
 ·have hkl' : 0 < S.length := List.length_pos_iff.2 hke
  rcases own_shape hA.own with ⟨rfl, hlen, _⟩ | ⟨b, cap, rfl, h1, h2, h3, h4⟩
  ·omega
  have hcap : ¬ cap = 0 := by omega
  have hc63 : cap ≤ 9223372036854775807 := by unfold maxLen at h2; omega
  clear hA hM h2 h3 h4 hke
  have HV := Lib.hid hvg
  have HVM := Lib.hid hvm
  have hbg : b ≠ g := fun e => hvg (by rw [e]; rfl)
  have hbm : b ≠ mb := fun e => hvm (by rw [e]; rfl)
  clear hvg hvm
  have hmn : min (0 : Int) (S.length : Int) = 0 := by omega
  have hlt0 : ¬ (S.length : Int) < 0 := by omega
  go_enter Tryz.func71, Tryz.ntmps71
  go_wp2_with fail
  go_loopw [6, 25] (fun bk i wr => ∃ j : Nat, j ≤ S.length ∧ i = .int .i64 (j : Int) ∧ bk = .int .i64 (costS (S.take j)) ∧ Keeps [] w wr) (fun _ i _ => S.length - (intOf i).toNat)
  case atStart => exact ⟨0, by omega, rfl, rfl, Keeps.refl _ _⟩
  case round =>
   obtain ⟨j, hj, rfl, rfl, hK⟩ := hrel
   have HK := Lib.hid hK
   have hown := Lib.hid (own_keeps HA.out.own hK (fun _ _ => by simp))
   clear hK
   have hbt0 := costS_nonneg (S.take j)
   have hbt1 : costS (S.take j) ≤ costS S := by
    have h5 := costS_split S j
    have h6 := costS_nonneg (S.drop j)
    omega
   by_cases hlt : j < S.length
   ·obtain ⟨p, hp⟩ : ∃ p, S[j]? = some p := ⟨_, List.getElem?_eq_getElem hlt⟩
    have hf : ∀ r u, r < 9 → p.cells[r]? = some u → wr.cell? ⟨b, j * 9 + r, none⟩ = some u := fun r u hr hu => by
     rw [hown.out.cellAt (j * 9 + r) (by omega), flatS_at hp hr]; exact hu
    have y0 := hf 0 _ (by decide) rfl
    have y1 := hf 1 _ (by decide) rfl
    have y2 := hf 2 _ (by decide) rfl
    have y3 := hf 3 _ (by decide) rfl
    have y4 := hf 4 _ (by decide) rfl
    have y5 := hf 5 _ (by decide) rfl
    have y6 := hf 6 _ (by decide) rfl
    have y7 := hf 7 _ (by decide) rfl
    have y8 := hf 8 _ (by decide) rfl
    simp only [Nat.add_zero] at y0
    obtain ⟨sa, kn, sc, hkv⟩ : ∃ sa kn sc, p.kv = .slice sa kn sc := ⟨_, _, _, rfl⟩
    rw [hkv] at y7
    have hstep := costS_take_succ hp
    have hstep1 : costS (S.take (j + 1)) ≤ costS S := by
     have h5 := costS_split S (j + 1)
     have h6 := costS_nonneg (S.drop (j + 1))
     omega
    obtain ⟨pn, hpn⟩ : ∃ pn : Int, 1 + (p.x.kids.length : Int) = pn := ⟨_, rfl⟩
    rw [hpn] at y8 hstep
    have hp1 : 1 ≤ pn := by omega
    have hp2 : pn ≤ 1099511627776 := by have := HA.out.most; omega
    have hp3 : costS (S.take j) + pn ≤ 1099511627776 := by have := HA.out.most; omega
    have HS := Lib.hid hstep
    have hji : (j : Int) < (S.length : Int) := by omega
    clear hstep hp hstep1 hf hpn hkv
    go_wp2
    go_roundw
    case rel => exact ⟨j + 1, by omega, by go_num, by rw [HS.out], HK.out.alloc _⟩
    case measure => simp [intOf]; omega
   ·obtain rfl : j = S.length := by omega
    have hall : S.take S.length = S := List.take_of_length_le (Nat.le_refl _)
    rw [hall]
    clear hall hbt0 hbt1 hlt hj
    obtain ⟨w2, hclr, hown2, hgr2⟩ := run_clear_own (P := Tryz.prog) wr B 126 139 (.agg #[.bool false, .bool false, .int .i64 0, .int .i64 0, .int .i64 0, .int .i64 0, .int .i64 0, .slice none 0 0, .int .i64 0]) 9 Tryz.underlying126 zeroSlot (by intro q hq; simp [Value.cells] at hq; rcases hq with rfl | rfl | rfl | rfl <;> rfl) rfl b S.length cap _ hown.out 0 0 S.length cap hkl' rfl rfl
    have gA2 : At w2 g 128 #[.pointer (some ⟨mb, 0, none⟩), .slice (some ⟨b, 0, none⟩) S.length cap, .int .i64 (costS S)] := (HA.out.at_.keeps HK.out (by simp)).grown hgr2 (by simpa using hbg.symm)
    have gM2 : At w2 mb 87 #[.int .i64 l, .int .i64 (costS S), .int .i64 m] := (HM.out.keeps HK.out (by simp)).grown hgr2 (by simpa using hbm.symm)
    have K2 : Keeps (g :: mb :: [b]) w w2 := (HK.out.mono (S' := g :: mb :: [b]) (fun x hx => by simp at hx)).grown hgr2 (fun k hk => .inl (by injection hk with hk; simp [hk]))
    have f0 := gA2.cell 0
    have f1 := gA2.cell 1
    have f2 := gA2.cell 2
    have z1 := gA2.frozen 1
    have z2 := gA2.frozen 2
    simp at f0 f1 f2
    have hG := Lib.hid gA2
    have hGM := Lib.hid gM2
    have hK2 := Lib.hid K2
    have hown3 := Lib.hid hown2
    clear gA2 gM2 K2 hown2 hgr2
    have hsub : costS S - costS S = 0 := by omega
    go_wp2_with fail
    refine (giveN_to mb l (costS S) m (costS S) _ ((hGM.out.far (by simpa using hgm.symm) _).far (by simpa using hgm.symm) _) ⟨hc0, hb⟩ (by omega) (by omega)).mono ?_
    rintro e w3 ⟨rfl, hT⟩
    rw [hsub] at hT
    have HT := Lib.hid hT
    clear hT
    go_wp2
    go_ret
    have K3 : Keeps [g, mb] w2 w3 := (((Keeps.refl [g, mb] w2).set (.inl (by simp)) _).set (.inl (by simp)) _).turns HT.out (.inl (by simp))
    refine ⟨rfl, .slice (some ⟨b, 0, none⟩) 0 cap, ⟨?_, ?_, by decide⟩, HT.out.at_, hK2.out.trans' K3 (fun x hx => .inl (by simp at hx ⊢; rcases hx with h | h <;> simp [h]))⟩
    ·refine HT.out.other ?_ hgm
     exact ((hG.out.set 1 _).set 2 _).eqs (by simp [costS_nil])
    ·have h8 := own_keeps hown3.out K3 (by
      intro q hq hm
      simp [Value.ownBlock] at hq
      subst hq
      simp at hm
      rcases hm with h | h
      ·exact hbg h
      ·exact hbm h)
     simpa [flatS] using h8
end Go.Proofs.YtdhhkancbgealaaGreat
end
section
namespace Go.Proofs.YtdhhkancbgealaaGreat
open Go.Shelf
set_option maxRecDepth 100000
set_option linter.unusedVariables false
set_option linter.unusedSimpArgs false
def shS_ren : Go.Shelf.Ren := ⟨fun | 189 => 91 | 125 => 95 | 257 => 94 | 128 => 107 | 129 => 108 | 294 => 98 | 295 => 99 | 296 => 100 | 297 => 101 | 298 => 102 | 299 => 103 | 216 => 104 | 300 => 105 | 301 => 106 | 328 => 109 | 329 => 110 | 330 => 111 | 331 => 112 | 332 => 113 | 215 => 114 | 343 => 115 | n => n, fun | 28 => 32 | 3 => 3 | 46 => 149 | 0 => 0 | 51 => 160 | 53 => 162 | 4 => 4 | 183 => 153 | 182 => 152 | 131 => 157 | 5 => 5 | 9 => 9 | 218 => 163 | 222 => 167 | 228 => 169 | 229 => 170 | n => n, fun | n => n⟩
theorem shS : Go.Proofs.Lays.n189 Tryz.prog shS_ren := {
 mixed := by kernel_rfl
 f125 := Tryz.func95.trans (congrArg some (by kernel_rfl))
 f128 := Tryz.func107.trans (congrArg some (by kernel_rfl))
 f129 := Tryz.func108.trans (congrArg some (by kernel_rfl))
 f189 := Tryz.func91.trans (congrArg some (by kernel_rfl))
 f215 := Tryz.func114.trans (congrArg some (by kernel_rfl))
 f216 := Tryz.func104.trans (congrArg some (by kernel_rfl))
 f257 := Tryz.func94.trans (congrArg some (by kernel_rfl))
 f294 := Tryz.func98.trans (congrArg some (by kernel_rfl))
 f295 := Tryz.func99.trans (congrArg some (by kernel_rfl))
 f296 := Tryz.func100.trans (congrArg some (by kernel_rfl))
 f297 := Tryz.func101.trans (congrArg some (by kernel_rfl))
 f298 := Tryz.func102.trans (congrArg some (by kernel_rfl))
 f299 := Tryz.func103.trans (congrArg some (by kernel_rfl))
 f300 := Tryz.func105.trans (congrArg some (by kernel_rfl))
 f301 := Tryz.func106.trans (congrArg some (by kernel_rfl))
 f328 := Tryz.func109.trans (congrArg some (by kernel_rfl))
 f329 := Tryz.func110.trans (congrArg some (by kernel_rfl))
 f330 := Tryz.func111.trans (congrArg some (by kernel_rfl))
 f331 := Tryz.func112.trans (congrArg some (by kernel_rfl))
 f332 := Tryz.func113.trans (congrArg some (by kernel_rfl))
 f343 := Tryz.func115.trans (congrArg some (by kernel_rfl))
 t0 := Tryz.underlying0
 a0 := Tryz.isAgg0
 z0 := Tryz.sizeOf0
 v0 := Tryz.zeroValue0
 t3 := Tryz.underlying3
 a3 := Tryz.isAgg3
 z3 := Tryz.sizeOf3
 v3 := Tryz.zeroValue3
 t4 := Tryz.underlying4
 a4 := Tryz.isAgg4
 z4 := Tryz.sizeOf4
 v4 := Tryz.zeroValue4
 t5 := Tryz.underlying5
 a5 := Tryz.isAgg5
 z5 := Tryz.sizeOf5
 v5 := Tryz.zeroValue5
 t9 := Tryz.underlying9
 a9 := Tryz.isAgg9
 z9 := Tryz.sizeOf9
 v9 := Tryz.zeroValue9
 t28 := Tryz.underlying32
 a28 := Tryz.isAgg32
 z28 := Tryz.sizeOf32
 v28 := Tryz.zeroValue32
 t46 := Tryz.underlying149
 a46 := Tryz.isAgg149
 z46 := Tryz.sizeOf149
 v46 := Tryz.zeroValue149
 t51 := Tryz.underlying160
 a51 := Tryz.isAgg160
 z51 := Tryz.sizeOf160
 v51 := Tryz.zeroValue160
 t53 := Tryz.underlying162
 a53 := Tryz.isAgg162
 z53 := Tryz.sizeOf162
 v53 := Tryz.zeroValue162
 t131 := Tryz.underlying157
 a131 := Tryz.isAgg157
 z131 := Tryz.sizeOf157
 v131 := Tryz.zeroValue157
 t182 := Tryz.underlying152
 a182 := Tryz.isAgg152
 z182 := Tryz.sizeOf152
 v182 := Tryz.zeroValue152
 t183 := Tryz.underlying153
 a183 := Tryz.isAgg153
 z183 := Tryz.sizeOf153
 v183 := Tryz.zeroValue153
 t218 := Tryz.underlying163
 a218 := Tryz.isAgg163
 z218 := Tryz.sizeOf163
 v218 := Tryz.zeroValue163
 t222 := Tryz.underlying167
 a222 := Tryz.isAgg167
 z222 := Tryz.sizeOf167
 v222 := Tryz.zeroValue167
 t228 := Tryz.underlying169
 a228 := Tryz.isAgg169
 z228 := Tryz.sizeOf169
 v228 := Tryz.zeroValue169
 t229 := Tryz.underlying170
 a229 := Tryz.isAgg170
 z229 := Tryz.sizeOf170
 v229 := Tryz.zeroValue170 }
open Go.Sort Go.RowKit in
theorem sort_ints (blk off cap : Nat) (zs : List Int) (w : World) (hH : Holds (Value.int .i64) w blk off zs.toArray) (hblk : blk < w.heap.size) (hsz : zs.length < 4611686018427387904) :
  Calls Tryz.prog 91 #[.slice (some ⟨blk, off, none⟩) zs.length cap] w fun e w' =>
   e = .returned (.tuple #[]) ∧ ∃ n os, w' = grow (putRow (Value.int .i64) (Sort.ahead w n) blk off (zs.mergeSort fun x y => decide (x ≤ y)).toArray) os := Any.slices_Sort_int shS blk off cap zs w hH hblk hsz
open Go.RowKit Go.Sort in
theorem sort_none (p : Option Addr) (cap : Nat) (w : World) :
  Calls Tryz.prog 91 #[.slice p 0 cap] w fun e w' => e = .returned (.tuple #[]) ∧ w' = w := Any.slices_Sort_int_none shS p cap w
def shCo_ren : Go.Shelf.Ren := ⟨fun | 20 => 92 | n => n, fun | 22 => 32 | 3 => 3 | 4 => 4 | 0 => 0 | n => n, fun | n => n⟩
theorem shCo : Go.Proofs.Lays2.n20 Tryz.prog shCo_ren := {
 mixed := by kernel_rfl
 f20 := Tryz.func92.trans (congrArg some (by kernel_rfl))
 t0 := Tryz.underlying0
 a0 := Tryz.isAgg0
 z0 := Tryz.sizeOf0
 v0 := Tryz.zeroValue0
 t3 := Tryz.underlying3
 a3 := Tryz.isAgg3
 z3 := Tryz.sizeOf3
 v3 := Tryz.zeroValue3
 t4 := Tryz.underlying4
 a4 := Tryz.isAgg4
 z4 := Tryz.sizeOf4
 v4 := Tryz.zeroValue4
 t22 := Tryz.underlying32
 a22 := Tryz.isAgg32
 z22 := Tryz.sizeOf32
 v22 := Tryz.zeroValue32
 i3 := by kernel_rfl }
def shCl_ren : Go.Shelf.Ren := ⟨fun | 15 => 50 | n => n, fun | 22 => 32 | 3 => 3 | 4 => 4 | n => n, fun | n => n⟩
theorem shCl : Go.Proofs.Lays2.n15 Tryz.prog shCl_ren := {
 mixed := by kernel_rfl
 f15 := Tryz.func50.trans (congrArg some (by kernel_rfl))
 t3 := Tryz.underlying3
 a3 := Tryz.isAgg3
 z3 := Tryz.sizeOf3
 v3 := Tryz.zeroValue3
 t4 := Tryz.underlying4
 a4 := Tryz.isAgg4
 z4 := Tryz.sizeOf4
 v4 := Tryz.zeroValue4
 t22 := Tryz.underlying32
 a22 := Tryz.isAgg32
 z22 := Tryz.sizeOf32
 v22 := Tryz.zeroValue32
 i3 := by kernel_rfl }
open Go.Sort Go.RowKit in
theorem compact_ints (blk off cap : Nat) (zs : List Int) (w : World) (hH : Holds (Value.int .i64) w blk off zs.toArray) (hsz : zs.length ≤ 9223372036854775807) (hcap : zs.length ≤ cap) :
  Calls Tryz.prog 92 #[.slice (some ⟨blk, off, none⟩) zs.length cap] w fun e w' => e = .returned (.slice (some ⟨blk, off, none⟩) (Go.Lib.compact zs).length cap) ∧ ∃ q, w' = putRow (Value.int .i64) (Sort.ahead w q) blk off (Go.Lib.compact zs ++ List.replicate (zs.length - (Go.Lib.compact zs).length) 0).toArray := Any.slices_Compact_int shCo blk off cap zs w hH hsz hcap
theorem compact_none (a : Option Addr) (cap : Nat) (w : World) :
  Calls Tryz.prog 92 #[.slice a 0 cap] w fun e w' => e = .returned (.slice a 0 cap) ∧ w' = w := Any.slices_Compact_int_empty shCo a cap w
open Go.RowKit in
theorem clone_some (b off n c : Nat) (zs : List Int) (w : World) (hz : n ≤ zs.length) (hbig : n * 8 ≤ 140737488355328) (hc : ∀ j, j < zs.length → w.cell? ⟨b, off + j, none⟩ = some (.int .i64 (zs.getD j 0))) :
  Calls Tryz.prog 50 #[.slice (some ⟨b, off, none⟩) n c] w fun e w' => ∃ v', e = .returned v' ∧ w'.ownsRow w.heap.size 3 1 v' n ((zs.take n).map (Value.int .i64)) ∧ v' ≠ .slice none 0 0 ∧ Below w.heap.size w w' := Any.slices_Clone_int shCl b off n c zs w hz hbig hc
theorem clone_nil (n c : Nat) (w : World) :
  Calls Tryz.prog 50 #[.slice none n c] w fun e w' => e = .returned (.slice none 0 0) ∧ w' = w := Any.slices_Clone_int_nil shCl n c w
open Go.RowKit in
theorem clone_zero (a : Addr) (c : Nat) (w : World) :
  Calls Tryz.prog 50 #[.slice (some a) 0 c] w fun e w' => ∃ v', e = .returned v' ∧ w'.ownsRow w.heap.size 3 1 v' 0 [] ∧ v' ≠ .slice none 0 0 ∧ Below w.heap.size w w' := Any.slices_Clone_int_zero shCl a c w
open Go.Sort Go.RowKit in
theorem put_own {α : Type} [Inhabited α] (enc : α → Value) {w : World} {B b n c : Nat} {e : TypeId} {xs : List Value} (ho : w.ownsRow B e 1 (.slice (some ⟨b, 0, none⟩) n c) n xs) (d : Array α) (hd : d.size = n) (m : Nat) (os : Array Obj) :
  (grow (putRow enc (Sort.ahead w m) b 0 d) os).ownsRow B e 1 (.slice (some ⟨b, 0, none⟩) n c) n (d.toList.map enc) ∧ w.grownBy (grow (putRow enc (Sort.ahead w m) b 0 d) os) (some b) := by
 rcases ho.2 with ⟨h', _⟩ | ⟨g', cap', cur, h', hb, hg, hnc, hcm, hcs, htake⟩
 ·simp at h'
 ·simp only [Value.slice.injEq, Option.some.injEq, Addr.mk.injEq, and_true, true_and] at h'
  obtain ⟨rfl, rfl⟩ := h'
  have hlt : b < w.heap.size := (Array.getElem?_eq_some_iff.1 hg).1
  have hblk : (grow (putRow enc (Sort.ahead w m) b 0 d) os).heap[b]? = some (.cells (putCells enc 0 d cur) e (0, 0)) := by
   have h1 : (putRow enc (Sort.ahead w m) b 0 d).heap[b]? = some (.cells (putCells enc 0 d cur) e (0, 0)) := by
    simp [putRow, mapBlock, Sort.ahead, Array.getElem?_modify, hg, onCells]
   rw [heap_grow_old _ _ (by simp [putRow, mapBlock, Sort.ahead]; exact hlt)]
   exact h1
  have hsz : (putCells enc 0 d cur).size = cur.size := by simp [putCells]
  have htk : (putCells enc 0 d cur).toList.take (n * 1) = d.toList.map enc := by
   apply List.ext_getElem?
   intro j
   rw [List.getElem?_take]
   by_cases hj : j < n
   ·have hjc : j < cur.size := by omega
    have hjd : j < d.size := by omega
    rw [if_pos (by omega)]
    simp [putCells, hjc, hjd]
   ·rw [if_neg (by omega)]
    symm
    apply List.getElem?_eq_none
    rw [List.length_map, Array.length_toList]; omega
  refine ⟨⟨by simp [hd], .inr ⟨b, c, _, rfl, hb, hblk, hnc, hcm, by rw [hsz]; exact hcs, htk⟩⟩, rfl, rfl, rfl, ?_, fun k hk hne => ?_⟩
  ·simp [grow, putRow, mapBlock, Sort.ahead]
  ·rw [heap_grow_old _ _ (by simp [putRow, mapBlock, Sort.ahead]; exact hk)]
   have hkb : ¬ b = k := fun e => hne (by rw [e])
   simp [putRow, mapBlock, Sort.ahead, Array.getElem?_modify, hkb]
open Go.Sort Go.RowKit in
theorem holds_own {α : Type} [Inhabited α] (enc : α → Value) {w : World} {B b n c : Nat} {e : TypeId} {d : Array α} (ho : w.ownsRow B e 1 (.slice (some ⟨b, 0, none⟩) n c) n (d.toList.map enc)) : Holds enc w b 0 d := by
 intro j hj
 have hn : d.size = n := by have := ho.1; simpa using this
 refine ⟨?_, ?_⟩
 ·rw [Nat.zero_add, ho.cellAt j (by omega)]
  simp [hj]
 ·rw [Nat.zero_add]; exact ho.frozenAt j
end Go.Proofs.YtdhhkancbgealaaGreat
end
