import Derived.Test.YtdhhkancbgealaaGreatT22
import Derived.Test.YtdhhkancbgealaaGreatT18
import Derived.Deep.RegionLaw
import Derived.Deep.DeepCutAuto
import Derived.Deep.Cut
import Derived.Deep.CutRange
import Derived.BigQuiet
import Derived.Deep.QuietTactic
namespace Go.Proofs.YtdhhkancbgealaaGreat
open Go.RowKit
open Lx
set_option linter.unusedVariables false
set_option linter.unusedSimpArgs false
set_option maxRecDepth 100000
theorem own_none9 (w : World) (e : TypeId) (size : Nat) : (w.alloc (.cells #[] e)).ownsRow w.heap.size e size (.slice (some ⟨w.heap.size, 0, none⟩) 0 0) 0 [] :=
  ⟨(Nat.zero_mul size).symm, .inr ⟨w.heap.size, 0, #[], rfl, Nat.le_refl _, At.new w e #[], Nat.le_refl _, by unfold maxLen; omega, (Nat.zero_mul size).symm, by simp⟩⟩
theorem tmod_nat (y n : Nat) : (y : Int).tmod ((n : Int) + 1) = ((y % (n + 1) : Nat) : Int) := by rw [Int.tmod_eq_emod_of_nonneg (by omega)]; rfl
theorem tmod_nat0 (y n : Nat) : (y : Int).tmod (n : Int) = ((y % n : Nat) : Int) := by rw [Int.tmod_eq_emod_of_nonneg (by omega)]; rfl
theorem getD9 {α : Type} {l : List α} {k : Nat} {d x : α} (h : l[k]? = some x) : l.getD k d = x := by simp [List.getD, h]
theorem range_snoc {α : Type} (f : Nat → α) (k : Nat) : (List.range (k + 1)).map f = (List.range k).map f ++ [f k] := by rw [List.range_succ, List.map_append]; rfl
theorem lev_zero (s : Sm.S) (j : Nat) : Sm.lev s 0 j = ⟨s.assocs.getD j 0 % 3 + 1, [Sm.pqr j]⟩ := rfl
theorem lev_same (s : Sm.S) (m j : Nat) (h : Sm.lvl s m ≠ j + 1) : Sm.lev s (m + 1) j = Sm.lev s m j := by
  unfold Sm.lev
  rw [List.range_succ, List.filter_append]
  have : [m].filter (fun i => Sm.lvl s i == j + 1) = [] := by simp [h]
  rw [this, List.append_nil]
theorem lev_more (s : Sm.S) (m j : Nat) (h : Sm.lvl s m = j + 1) : Sm.lev s (m + 1) j = ⟨(Sm.lev s m j).assoc, (Sm.lev s m j).names ++ [Sm.abc m]⟩ := by
  unfold Sm.lev
  rw [List.range_succ, List.filter_append]
  have : [m].filter (fun i => Sm.lvl s i == j + 1) = [m] := by simp [h]
  rw [this]; simp
theorem levs_none (s : Sm.S) (m : Nat) (h : Sm.lvl s m = 0) : Sm.levs s (m + 1) = Sm.levs s m := by
  unfold Sm.levs
  refine List.map_congr_left fun j hj => lev_same s m j (by omega)
theorem levs_set (s : Sm.S) (m j : Nat) (h : Sm.lvl s m = j + 1) : Sm.levs s (m + 1) = (Sm.levs s m).set j ⟨(Sm.lev s m j).assoc, (Sm.lev s m j).names ++ [Sm.abc m]⟩ := by
  unfold Sm.levs
  apply List.ext_getElem?
  intro i
  rw [List.getElem?_set, List.getElem?_map, List.getElem?_map, List.length_map, List.length_range]
  by_cases hi : i < Sm.nl s
  · rw [List.getElem?_range hi]
    by_cases e : j = i
    · subst e
      rw [if_pos rfl, if_pos hi, ← lev_more s m j h]; rfl
    · rw [if_neg e]
      show some (Sm.lev s (m + 1) i) = some (Sm.lev s m i)
      rw [lev_same s m i (by omega)]
  · have hn : (List.range (Sm.nl s))[i]? = none := by simp; omega
    rw [hn]
    by_cases e : j = i
    · subst e; rw [if_pos rfl, if_neg hi]; rfl
    · rw [if_neg e]; rfl
theorem u8_get {w : World} {B : Nat} {A : Option Addr} {l : List Nat} (h : Cl w B A (u8V l)) {k x : Nat} (hk : l[k]? = some x) : ∃ b o, A = some ⟨b, o, none⟩ ∧ b < B ∧ w.cell? ⟨b, o + k, none⟩ = some (.int .u8 (x : Int)) := by
  have h1 := u8V_get hk
  obtain ⟨b, o, hA, hb, hc⟩ := h.ex (fun e => by rw [e] at h1; simp at h1)
  exact ⟨b, o, hA, hb, hc _ _ h1⟩
theorem one_nms (w : World) (n : Rd.Name) : Nms (w.alloc (.cells #[.string (str n)] 9)) (.slice (some ⟨w.heap.size, 0, none⟩) 1 1) [n] := by
  refine ⟨_, 1, rfl, Lie.own (own_built w [.string (str n)] 9 (by unfold maxLen; simp))⟩
set_option maxHeartbeats 16000000 in
theorem sgram_any (v : Value) (s : Sm.S) (B : Nat) (w : World) (h : SmallC w B v s) (hB : B ≤ w.heap.size) (hs : SmSz s) (hl5 : Sm.nl s ≤ 5) (h20 : s.lefts.length ≤ 20) (h8 : ∀ l ∈ s.rights, l.length ≤ 8) :
    Calls Tryz.prog 39 #[v] w fun e w' => (∃ gv, e = .returned gv ∧ GramC w' w'.heap.size gv (Sm.gram s)) ∧ Below w.heap.size w w' := by
  obtain ⟨A1, c1, A2, c2, A3, c3, A4, c4, A5, c5, ql, rfl, k1, k2, k3, k4, k5, k6, k7⟩ := h.ex
  have hql : ql.length = s.rights.length := by rw [← k3, List.length_map]
  obtain ⟨iL, hiL, hL0, hL1, hL2⟩ := info_parts infoLevel
  obtain ⟨iT, hiT, hT0, hT1, hT2⟩ := info_parts infoToken
  obtain ⟨iR, hiR, hR0, hR1, hR2⟩ := info_parts infoRule
  obtain ⟨iS, hiS, hS0, hS1, hS2⟩ := info_parts strinfo
  have HSZ := Lib.hid hs
  have HR8 := Lib.hid h8
  have z2 := hs.n2
  have z3 := hs.n3
  have z5 := hs.n5
  have hnt := Sm.nt_le (s := s)
  have hnv := Sm.nv_le (s := s)
  have ent : (s.tokens : Int) % 5 + 1 = ((Sm.nt s : Nat) : Int) := by unfold Sm.nt; omega
  have env : (s.vars : Int) % 4 + 1 = ((Sm.nv s : Nat) : Int) := by unfold Sm.nv; omega
  have HNT := Lib.hid ent
  have HNV := Lib.hid env
  have hnl : s.assocs.length = Sm.nl s := rfl
  obtain ⟨n1, hn1⟩ : ∃ n, s.lefts.length = n := ⟨_, rfl⟩
  obtain ⟨n2, hn2⟩ : ∃ n, s.rights.length = n := ⟨_, rfl⟩
  obtain ⟨n3, hn3⟩ : ∃ n, s.precs.length = n := ⟨_, rfl⟩
  obtain ⟨n5, hn5⟩ : ∃ n, s.levels.length = n := ⟨_, rfl⟩
  obtain ⟨NL, hNL⟩ : ∃ n, Sm.nl s = n := ⟨_, rfl⟩
  rw [hNL] at hnl hl5
  rw [hn1] at h20 ⊢
  rw [hn2] at hql z2 ⊢
  rw [hn3] at z3 ⊢
  rw [hn5] at z5 ⊢
  rw [hnl]
  have HN1 := Lib.hid hn1
  have HN2 := Lib.hid hn2
  have HN3 := Lib.hid hn3
  have HN4 := Lib.hid hnl
  have HN5 := Lib.hid hn5
  have HNL := Lib.hid hNL
  have HQL := Lib.hid hql
  have HQ3 := Lib.hid k3
  obtain ⟨SC, hSC⟩ : ∃ SC : Array Value, #[.int .u8 (s.tokens : Int), .int .u8 (s.vars : Int), .slice A1 n1 c1, .slice A2 n2 c2, .slice A3 n3 c3, .slice A4 NL c4, .slice A5 n5 c5] = SC := ⟨_, rfl⟩
  have HSC := Lib.hid hSC
  have hb1 := (Below.refl w.heap.size w).alloc (Nat.le_refl _) (.cells SC 25)
  have hat1 := At.new w 25 SC
  obtain ⟨w1, hw1⟩ : ∃ w1, w.alloc (.cells SC 25) = w1 := ⟨_, rfl⟩
  have hs1 : w1.heap.size = w.heap.size + 1 := by rw [← hw1]; simp
  rw [hw1] at hb1 hat1
  have hat2 := At.new w1 84 #[.slice none 0 0, .slice none 0 0, .slice none 0 0, .string ⟨#[]⟩, .slice none 0 0]
  have hb2 := hb1.alloc hb1.size (.cells #[.slice none 0 0, .slice none 0 0, .slice none 0 0, .string ⟨#[]⟩, .slice none 0 0] 84)
  have hat12 := hat1.alloc (.cells #[.slice none 0 0, .slice none 0 0, .slice none 0 0, .string ⟨#[]⟩, .slice none 0 0] 84)
  obtain ⟨w2, hw2⟩ : ∃ w2, w1.alloc (.cells #[.slice none 0 0, .slice none 0 0, .slice none 0 0, .string ⟨#[]⟩, .slice none 0 0] 84) = w2 := ⟨_, rfl⟩
  have hs2 : w2.heap.size = w.heap.size + 1 + 1 := by rw [← hw2]; simp [hs1]
  rw [hw2] at hat2 hb2 hat12
  have hat3 := At.new w2 84 #[.slice none 0 0, .slice none 0 0, .slice none 0 0, .string ⟨#[83]⟩, .slice none 0 0]
  have hb3 := hb2.alloc hb2.size (.cells #[.slice none 0 0, .slice none 0 0, .slice none 0 0, .string ⟨#[83]⟩, .slice none 0 0] 84)
  have hat13 := hat12.alloc (.cells #[.slice none 0 0, .slice none 0 0, .slice none 0 0, .string ⟨#[83]⟩, .slice none 0 0] 84)
  have hat23 := hat2.alloc (.cells #[.slice none 0 0, .slice none 0 0, .slice none 0 0, .string ⟨#[83]⟩, .slice none 0 0] 84)
  obtain ⟨W0, hW0⟩ : ∃ W0, w2.alloc (.cells #[.slice none 0 0, .slice none 0 0, .slice none 0 0, .string ⟨#[83]⟩, .slice none 0 0] 84) = W0 := ⟨_, rfl⟩
  have hs3 : W0.heap.size = w.heap.size + 1 + 1 + 1 := by rw [← hW0]; simp [hs2]
  rw [hW0] at hat3 hb3 hat13 hat23
  have HWW := Lib.hid (show ((w.alloc (.cells #[.int .u8 (s.tokens : Int), .int .u8 (s.vars : Int), .slice A1 n1 c1, .slice A2 n2 c2, .slice A3 n3 c3, .slice A4 NL c4, .slice A5 n5 c5] 25)).alloc (.cells #[.slice none 0 0, .slice none 0 0, .slice none 0 0, .string ⟨#[]⟩, .slice none 0 0] 84)).alloc (.cells #[.slice none 0 0, .slice none 0 0, .slice none 0 0, .string ⟨#[83]⟩, .slice none 0 0] 84) = W0 by rw [hSC, hw1, hw2, hW0])
  obtain ⟨gb, hgb⟩ : ∃ g, w.heap.size = g := ⟨_, rfl⟩
  obtain ⟨gr, hgr⟩ : ∃ g, gb + 1 = g := ⟨_, rfl⟩
  obtain ⟨g, hgg⟩ : ∃ g, gr + 1 = g := ⟨_, rfl⟩
  rw [hs1] at hat23
  rw [hs2] at hat3
  rw [hgb] at hat13 hat23 hat3 hs3
  rw [hgr] at hat23 hat3 hs3
  rw [hgg] at hat3 hs3
  have HATB := Lib.hid hat13
  have HATR := Lib.hid hat23
  have HB0 := Lib.hid hb3
  have HG := Lib.hid (show w.heap.size = gb ∧ gb + 1 = gr ∧ gr + 1 = g ∧ W0.heap.size = g + 1 from ⟨hgb, hgr, hgg, hs3⟩)
  have L1 := Lib.hid (k1.below (hb3.mono hB))
  have L2 := Lib.hid (k2.below (hb3.mono hB))
  have L3 := Lib.hid (k5.below (hb3.mono hB))
  have L4 := Lib.hid (k6.below (hb3.mono hB))
  have L5 := Lib.hid (k7.below (hb3.mono hB))
  have J2 := Lib.hid (show ∀ p ∈ ql, U8C W0 B p.2 p.1 from fun p hp => (k4 p hp).below (hb3.mono hB))
  have hBg : B ≤ g := by omega
  have HMK := Lib.hid (show Mk g W0 g (.slice none 0 0) 0 [] (.slice none 0 0) 0 [] (.slice none 0 0) 0 [] W0 from
    ⟨hat3, World.ownsRow_nil _ _ _ _, World.ownsRow_nil _ _ _ _, World.ownsRow_nil _ _ _ _, fun p hp => by simp at hp, fun p hp => by simp at hp, Nat.le_refl _, Below.refl _ _, by omega⟩)
  clear h hs h8 k1 k2 k3 k4 k5 k6 k7 hn1 hn2 hn3 hn5 hnl hNL hSC hb1 hat1 hw1 hs1 hat2 hb2 hat12 hw2 hs2 hat3 hb3 hat13 hat23 hW0 hs3 hgb hgr hgg hql ent env
  go_enter Tryz.func39, Tryz.ntmps39
  go_wp2_with fail
  rw [HWW.out, HNT.out, HNV.out]
  obtain ⟨hgb, hgr, hgg, _⟩ := HG.out
  rw [hgb, hgr, hgg]
  clear hgb hgr hgg HWW HNT HNV
  generalize hNTT : Sm.nt s = NT at hnt ⊢
  generalize hNVV : Sm.nv s = NV at hnv ⊢
  have HNT := Lib.hid hNTT
  have HNV := Lib.hid hNVV
  clear hNTT hNVV
  go_loopw [6] (fun i wr => ∃ (k : Nat) (a : Option Addr) (sz : Nat) (pl : List (Rd.Lev × Value × Int)), k ≤ NL ∧ i = .int .i64 (k : Int) ∧ Mk g W0 g (.slice none 0 0) 0 [] (.slice a k sz) k pl (.slice none 0 0) 0 [] wr ∧ pl.map (·.1) = (List.range k).map (Sm.lev s 0)) (fun i _ => NL - (intOf i).toNat)
  case atStart => exact ⟨0, none, 0, [], by omega, rfl, HMK.out, rfl⟩
  case round =>
    clear HMK
    obtain ⟨k, a, sz, pl, hk, rfl, hmk, hpl⟩ := hrel
    have HMK := Lib.hid hmk
    have HPL := Lib.hid hpl
    have hat := hmk.at_
    have p2 := hat.cell 2
    have p2a : ∀ o, (wr.alloc o).cell? ⟨g, 2, none⟩ = some (.slice a k sz) := fun o => (hat.alloc o).cell 2
    have p2b : ∀ o o', ((wr.alloc o).alloc o').cell? ⟨g, 2, none⟩ = some (.slice a k sz) := fun o o' => ((hat.alloc o).alloc o').cell 2
    have hlg := hat.lt
    simp only [List.getElem?_toArray, List.getElem?_cons_zero, List.getElem?_cons_succ] at p2
    have hatb := HATB.out.below hmk.bel (by have := HG.out; omega)
    have HATBW := Lib.hid hatb
    have hlb := hatb.lt
    rw [← HSC.out] at hatb
    have q5 := hatb.cell 5
    have q5a : ∀ o, (wr.alloc o).cell? ⟨gb, 5, none⟩ = some (.slice A4 NL c4) := fun o => (hatb.alloc o).cell 5
    simp only [List.getElem?_toArray, List.getElem?_cons_zero, List.getElem?_cons_succ] at q5
    by_cases hlt : k < NL
    · obtain ⟨x, hx⟩ := some_get (l := s.assocs) (i := k) (by rw [HN4.out]; exact hlt)
      obtain ⟨ab, ao, hA, hab, y0⟩ := u8_get (L4.out.below (hmk.bel.mono hBg)) hx
      subst hA
      have y0a : ∀ o, (wr.alloc o).cell? ⟨ab, ao + k, none⟩ = some (.int .u8 (x : Int)) := fun o => ((Below.refl wr.heap.size wr).alloc (Nat.le_refl _) o).cell (p := ⟨ab, ao + k, none⟩) (by show ab < _; have := hmk.size; omega) |>.trans y0
      have habw : ab < wr.heap.size := by have := hmk.size; omega
      have hx255 := HSZ.out.assoc x (List.mem_of_getElem? hx)
      have HX := Lib.hid (getD9 (d := 0) hx)
      have hcut := cut_pqr k (by omega)
      have HPQ := Lib.hid (one_nms wr (Sm.pqr k))
      generalize hPQ : str (Sm.pqr k) = PQ at hcut HPQ
      have hown := hmk.lv
      have HOW := Lib.hid hown
      have HATG := Lib.hid hat
      have hsz := hmk.size
      have hki : (k : Int) < (NL : Int) := by omega
      have hk0 : (0 : Int) ≤ (k : Int) := by omega
      have hk5 : (k : Int) + 1 ≤ 5 := by omega
      have hk6 : (0 : Int) ≤ (k : Int) + 1 := by omega
      have hk7 : (k : Int) ≤ (k : Int) + 1 := by omega
      have hkn : ((k : Int) + 1).toNat = k + 1 := by omega
      have hw1 : IntKind.i64.wrap ((k : Int) + 1) = (k : Int) + 1 := IntWalk.i64_in _ ⟨by omega, by omega⟩
      obtain ⟨AS, hAS⟩ : ∃ AS : Int, (x : Int).tmod 3 = AS := ⟨_, rfl⟩
      have hAS2 : AS = ((x % 3 : Nat) : Int) := by rw [← hAS, Int.tmod_eq_emod_of_nonneg (by omega)]; omega
      have hw2 : IntKind.i64.wrap AS = AS := IntWalk.i64_in _ ⟨by omega, by omega⟩
      obtain ⟨A1, hA1⟩ : ∃ A1 : Int, AS + 1 = A1 := ⟨_, rfl⟩
      have hw3 : IntKind.i64.wrap (AS + 1) = A1 := by rw [hA1]; exact IntWalk.i64_in _ ⟨by omega, by omega⟩
      have HA1 := Lib.hid (show A1 = ((x % 3 + 1 : Nat) : Int) by omega)
      clear hAS2 hA1
      have hc3 : k + 1 ≤ maxLen := by unfold maxLen; omega
      have hc4 : (k + 1) * 32 ≤ 140737488355328 := by omega
      have hz0 : Below wr.heap.size wr wr.drew := below_drew (Below.refl _ _)
      clear hmk hat hatb hown hx hPQ hpl p2a p2b q5a y0a
      go_wp2_with fail
      refine Zed.begin_ (fun w' => Below wr.heap.size wr w') [17, 19] (by kernel_rfl) ?_
      refine Zed.pure (i := 0) (v := ?va0) rfl (by kernel_rfl) (by kernel_rfl) (by kernel_rfl) (by kernel_rfl) (by kernel_rfl) (fun _ _ _ h => h) (Or.inl ⟨by rfl, ?hya0⟩) (.inr hz0) ?resta0
      case hya0 => (intro w _; go_simp; try with_reducible rfl)
      try simp only [Act.put, List.setIfInBounds_toArray, List.set_cons_zero, List.set_cons_succ]
      refine Zed.take (i := 1) (v := ?va1) rfl (by kernel_rfl) (by kernel_rfl) (by kernel_rfl) (by kernel_rfl) (by kernel_rfl) (fun _ _ _ h => h) (Or.inl ⟨by rfl, ?hya1⟩) hz0 ?resta1
      case hya1 => (intro w hSw; (try dsimp only at hSw); have hc := (hSw.cell (p := ⟨g, 2, none⟩) hlg).trans p2; go_simp; try with_reducible rfl)
      try simp only [Act.put, List.setIfInBounds_toArray, List.set_cons_zero, List.set_cons_succ]
      refine Zed.pure (i := 2) (v := ?va2) rfl (by kernel_rfl) (by kernel_rfl) (by kernel_rfl) (by kernel_rfl) (by kernel_rfl) (fun _ _ _ h => h) (Or.inl ⟨by rfl, ?hya2⟩) (.inr hz0) ?resta2
      case hya2 => (intro w _; go_simp; try with_reducible rfl)
      try simp only [Act.put, List.setIfInBounds_toArray, List.set_cons_zero, List.set_cons_succ]
      refine Zed.take (i := 3) (v := ?va3) rfl (by kernel_rfl) (by kernel_rfl) (by kernel_rfl) (by kernel_rfl) (by kernel_rfl) (fun _ _ _ h => h) (Or.inl ⟨by rfl, ?hya3⟩) hz0 ?resta3
      case hya3 => (intro w hSw; (try dsimp only at hSw); have hc := (hSw.cell (p := ⟨gb, 5, none⟩) hlb).trans q5; go_simp; try with_reducible rfl)
      try simp only [Act.put, List.setIfInBounds_toArray, List.set_cons_zero, List.set_cons_succ]
      refine Zed.pure (i := 4) (v := ?va4) rfl (by kernel_rfl) (by kernel_rfl) (by kernel_rfl) (by kernel_rfl) (by kernel_rfl) (fun _ _ _ h => h) (Or.inl ⟨by rfl, ?hya4⟩) (.inr hz0) ?resta4
      case hya4 => (intro w _; go_simp; try with_reducible rfl)
      try simp only [Act.put, List.setIfInBounds_toArray, List.set_cons_zero, List.set_cons_succ]
      refine Zed.pure (i := 5) (v := ?va5) rfl (by kernel_rfl) (by kernel_rfl) (by kernel_rfl) (by kernel_rfl) (by kernel_rfl) (fun _ _ _ h => h) (Or.inl ⟨by rfl, ?hya5⟩) (.inr hz0) ?resta5
      case hya5 => (intro w _; go_simp; try with_reducible rfl)
      try simp only [Act.put, List.setIfInBounds_toArray, List.set_cons_zero, List.set_cons_succ]
      refine Zed.take (i := 6) (v := ?va6) rfl (by kernel_rfl) (by kernel_rfl) (by kernel_rfl) (by kernel_rfl) (by kernel_rfl) (fun _ _ _ h => h) (Or.inl ⟨by rfl, ?hya6⟩) hz0 ?resta6
      case hya6 => (intro w hSw; (try dsimp only at hSw); have hc := (hSw.cell (p := ⟨ab, ao + k, none⟩) habw).trans y0; go_simp; try with_reducible rfl)
      try simp only [Act.put, List.setIfInBounds_toArray, List.set_cons_zero, List.set_cons_succ]
      refine Zed.pure (i := 7) (v := ?va7) rfl (by kernel_rfl) (by kernel_rfl) (by kernel_rfl) (by kernel_rfl) (by kernel_rfl) (fun _ _ _ h => h) (Or.inl ⟨by rfl, ?hya7⟩) (.inr hz0) ?resta7
      case hya7 => (intro w _; go_simp; try with_reducible rfl)
      try simp only [Act.put, List.setIfInBounds_toArray, List.set_cons_zero, List.set_cons_succ]
      refine Zed.pure (i := 8) (v := ?va8) rfl (by kernel_rfl) (by kernel_rfl) (by kernel_rfl) (by kernel_rfl) (by kernel_rfl) (fun _ _ _ h => h) (Or.inl ⟨by rfl, ?hya8⟩) (.inr hz0) ?resta8
      case hya8 => (intro w _; go_simp; try with_reducible rfl)
      try simp only [Act.put, List.setIfInBounds_toArray, List.set_cons_zero, List.set_cons_succ]
      refine Zed.pure (i := 9) (v := ?va9) rfl (by kernel_rfl) (by kernel_rfl) (by kernel_rfl) (by kernel_rfl) (by kernel_rfl) (fun _ _ _ h => h) (Or.inl ⟨by rfl, ?hya9⟩) (.inr hz0) ?resta9
      case hya9 => (intro w _; go_simp; try with_reducible rfl)
      try simp only [Act.put, List.setIfInBounds_toArray, List.set_cons_zero, List.set_cons_succ]
      refine Zed.pure (i := 10) (v := ?va10) rfl (by kernel_rfl) (by kernel_rfl) (by kernel_rfl) (by kernel_rfl) (by kernel_rfl) (fun _ _ _ h => h) (Or.inl ⟨by rfl, ?hya10⟩) (.inr hz0) ?resta10
      case hya10 => (intro w _; go_simp; try with_reducible rfl)
      try simp only [Act.put, List.setIfInBounds_toArray, List.set_cons_zero, List.set_cons_succ]
      refine Zed.pure (i := 11) (v := ?va11) rfl (by kernel_rfl) (by kernel_rfl) (by kernel_rfl) (by kernel_rfl) (by kernel_rfl) (fun _ _ _ h => h) (Or.inl ⟨by rfl, ?hya11⟩) (.inr hz0) ?resta11
      case hya11 => (intro w _; go_simp; try with_reducible rfl)
      try simp only [Act.put, List.setIfInBounds_toArray, List.set_cons_zero, List.set_cons_succ]
      refine Zed.pure (i := 12) (v := ?va12) rfl (by kernel_rfl) (by kernel_rfl) (by kernel_rfl) (by kernel_rfl) (by kernel_rfl) (fun _ _ _ h => h) (Or.inl ⟨by rfl, ?hya12⟩) (.inr hz0) ?resta12
      case hya12 => (intro w _; go_simp; try with_reducible rfl)
      try simp only [Act.put, List.setIfInBounds_toArray, List.set_cons_zero, List.set_cons_succ]
      refine Zed.pure (i := 13) (v := ?va13) rfl (by kernel_rfl) (by kernel_rfl) (by kernel_rfl) (by kernel_rfl) (by kernel_rfl) (fun _ _ _ h => h) (Or.inl ⟨by rfl, ?hya13⟩) (.inr hz0) ?resta13
      case hya13 => (intro w _; go_simp; try with_reducible rfl)
      try simp only [Act.put, List.setIfInBounds_toArray, List.set_cons_zero, List.set_cons_succ]
      refine Zed.one (i := 14) (by kernel_rfl) rfl (fun K hK => ?_)
      go_simp
      have hz1 := hz0.alloc hz0.size (.cells #[.string PQ] 9)
      refine hK.out _ _ (.inr hz1) ?_
      clear hK K
      try simp only [Act.put, List.setIfInBounds_toArray, List.set_cons_zero, List.set_cons_succ]
      refine Zed.pure (i := 15) (v := ?va15) rfl (by kernel_rfl) (by kernel_rfl) (by kernel_rfl) (by kernel_rfl) (by kernel_rfl) (fun _ _ _ h => h) (Or.inl ⟨by rfl, ?hya15⟩) (.inr hz1) ?resta15
      case hya15 => (intro w _; go_simp; try with_reducible rfl)
      try simp only [Act.put, List.setIfInBounds_toArray, List.set_cons_zero, List.set_cons_succ]
      refine Zed.one (i := 16) (by kernel_rfl) rfl (fun K hK => ?_)
      go_simp
      have hz2 := hz1.alloc hz1.size (.cells #[.int .i64 A1, .slice (some ⟨wr.heap.size, 0, none⟩) 1 1] 124)
      refine hK.out _ _ (.inr hz2) ?_
      clear hK K
      try simp only [Act.put, List.setIfInBounds_toArray, List.set_cons_zero, List.set_cons_succ]
      refine Zed.one (i := 17) (by kernel_rfl) rfl (fun K hK => ?_)
      refine step_append_own2 rfl _ _ 81 rfl g 124 iL _ 2 32 Tryz.underlying81 hiL hL0 hL1 hL2 rfl (by decide) _ _ _ rfl ((HOW.out.drew.alloc _).alloc _) ⟨wr.heap.size + 1, 0, none⟩ 1 1 [.int .i64 A1, .slice (some ⟨wr.heap.size, 0, none⟩) 1 1] rfl rfl (cells_new2 _ _ _ _) (by simp [Value.oneCell']) hc3 hc4 (by simp; omega) ?_
      intro v' w5 hown5 hg5 hn5
      obtain ⟨a5, s5, rfl⟩ := own_form hown5
      have hA5 := At.grown ((HATG.out.drew.alloc _).alloc _) hg5 (fun e => own_apart HOW.out HATG.out (by decide) e.symm)
      have r2 := hA5.cell 2
      have rf := hA5.frozen
      simp only [List.getElem?_toArray, List.getElem?_cons_zero, List.getElem?_cons_succ] at r2
      refine hK.out _ _ (.inl (by kernel_rfl)) ?_
      clear hK K
      try simp only [Act.put, List.setIfInBounds_toArray, List.set_cons_zero, List.set_cons_succ]
      refine Zed.pure (i := 18) (v := ?va18) rfl (by kernel_rfl) (by kernel_rfl) (by kernel_rfl) (by kernel_rfl) (by kernel_rfl) (fun _ _ _ h => h) (Or.inl ⟨by rfl, ?hya18⟩) (.inl (by kernel_rfl)) ?resta18
      case hya18 => (intro w _; go_simp; try with_reducible rfl)
      try simp only [Act.put, List.setIfInBounds_toArray, List.set_cons_zero, List.set_cons_succ]
      refine Zed.one (i := 19) (by kernel_rfl) rfl (fun K hK => ?_)
      go_simp
      refine hK.out _ _ (.inl (by kernel_rfl)) ?_
      clear hK K
      try simp only [Act.put, List.setIfInBounds_toArray, List.set_cons_zero, List.set_cons_succ]
      refine Zed.all (by kernel_rfl) ?_ _
      have HM2 := Lib.hid (Mk.putL (x := Sm.lev s 0 k) (v := .slice (some ⟨wr.heap.size, 0, none⟩) 1 1) (a := A1) (((HMK.out.alloc (.cells #[.string PQ] 9)).alloc (.cells #[.int .i64 A1, .slice (some ⟨wr.heap.size, 0, none⟩) 1 1] 124)).drew) (show w5.ownsRow g 124 2 (.slice a5 (k + 1) s5) (k + 1) (levsC (pl ++ [(Sm.lev s 0 k, Value.slice (some ⟨wr.heap.size, 0, none⟩) 1 1, A1)])) by rw [levsC_append]; exact hown5) hg5
        (by rw [lev_zero, HX.out, HA1.out]; show x % 3 + 1 = encA ((x % 3 + 1 : Nat) : Int); exact (encA_nat ⟨by omega, by omega⟩).symm) (by rw [lev_zero]; exact (HPQ.out.stay (Stay.below ((Below.refl _ _).alloc (Nat.le_refl _) _))).stay (Stay.below (below_drew (Below.refl _ _)))))
      clear hown5 hg5 hn5 hA5 r2 rf hz0 hz1 hz2
      go_wp2_with fail
      go_roundw
      case rel => exact ⟨k + 1, a5, s5, _, by omega, by go_num, HM2.out, by rw [List.map_append, HPL.out, range_snoc]; rfl⟩
      case measure => simp [intOf]; omega
    · obtain rfl : NL = k := by omega
      have HPL0 := Lib.hid (show pl.map (·.1) = Sm.levs s 0 by rw [HPL.out]; unfold Sm.levs; rw [HNL.out])
      clear hmk hpl hat hatb p2a p2b q5a
      go_wp2_with fail
      clear p2 q5 hlg hlb
      obtain ⟨W1, hW1⟩ : ∃ W1, wr = W1 := ⟨_, rfl⟩
      rw [hW1] at HMK ⊢
      clear hW1 HATBW HPL hk
      go_loopw [7] (fun i wr => ∃ (k : Nat) (aT : Option Addr) (sT : Nat) (a : Option Addr) (sz : Nat) (pl : List (Rd.Lev × Value × Int)), k ≤ NT ∧ i = .int .i64 (k : Int) ∧ Mk g W0 g (.slice aT k sT) k ((List.range k).map Sm.tok) (.slice a NL sz) NL pl (.slice none 0 0) 0 [] wr ∧ pl.map (·.1) = Sm.levs s k) (fun i _ => NT - (intOf i).toNat)
      case atStart => exact ⟨0, none, 0, a, sz, pl, by omega, rfl, HMK.out, HPL0.out⟩
      case round =>
        clear HMK HPL0
        obtain ⟨k, aT, sT, a, sz, pl, hk, rfl, hmk, hpl⟩ := hrel
        have HMK := Lib.hid hmk
        have HPL := Lib.hid hpl
        have hat := hmk.at_
        have p0 := hat.cell 0
        have p0a : ∀ o, (wr.alloc o).cell? ⟨g, 0, none⟩ = some (.slice aT k sT) := fun o => (hat.alloc o).cell 0
        have hlg := hat.lt
        simp only [List.getElem?_toArray, List.getElem?_cons_zero, List.getElem?_cons_succ] at p0
        by_cases hlt : k < NT
        · have hcut := cut_abc k (by omega)
          have htok : toksV ((List.range (k + 1)).map Sm.tok) = toksV ((List.range k).map Sm.tok) ++ [.string (str (Sm.abc k)), .string (str (Sm.abc k)), .string ⟨#[]⟩, .bool false] := by
            rw [range_snoc]; unfold toksV; rw [List.flatMap_append]; rfl
          have HTK := Lib.hid htok
          obtain ⟨X, hX⟩ : ∃ X, str (Sm.abc k) = X := ⟨_, rfl⟩
          rw [hX] at hcut HTK
          have HXE := Lib.hid hX
          have HOW := Lib.hid hmk.tk
          have HATG := Lib.hid hat
          have hsz := hmk.size
          have hki : (k : Int) < (NT : Int) := by omega
          have hk0 : (0 : Int) ≤ (k : Int) := by omega
          have hk5 : (k : Int) + 1 ≤ 5 := by omega
          have hk6 : (0 : Int) ≤ (k : Int) + 1 := by omega
          have hk7 : (k : Int) ≤ (k : Int) + 1 := by omega
          have hkn : ((k : Int) + 1).toNat = k + 1 := by omega
          have hc3 : k + 1 ≤ maxLen := by unfold maxLen; omega
          have hc4 : (k + 1) * 56 ≤ 140737488355328 := by omega
          clear hmk hat hpl hX htok
          go_wp2_with (at_builtin; refine wpList_append_own2 _ rfl _ _ 79 rfl g 121 iT _ 4 56 Tryz.underlying79 hiT hT0 hT1 hT2 rfl (by decide) _ _ _ rfl (HOW.out.alloc _) ⟨wr.heap.size, 0, none⟩ 1 1 [.string X, .string X, .string ⟨#[]⟩, .bool false] rfl rfl (cells_new _ _ _) (by simp [Value.oneCell']) hc3 hc4 (by simp; omega) ?_)
          intro v' w5 hown5 hg5 _
          obtain ⟨a7, s7, rfl⟩ := own_form hown5
          have hat5 := (HATG.out.alloc (.cells #[.string X, .string X, .string ⟨#[]⟩, .bool false] 121)).grown hg5 (fun e => own_apart HOW.out HATG.out (by decide) e.symm)
          have r0 := hat5.cell 0
          have rf := hat5.frozen 0
          simp only [List.getElem?_toArray, List.getElem?_cons_zero] at r0
          have HM2 := Lib.hid (Mk.putT (T' := (List.range (k + 1)).map Sm.tok) (HMK.out.alloc (.cells #[.string X, .string X, .string ⟨#[]⟩, .bool false] 121)) (show w5.ownsRow g 121 4 (.slice a7 (k + 1) s7) (k + 1) (toksV ((List.range (k + 1)).map Sm.tok)) by rw [HTK.out]; exact hown5) hg5)
          clear hown5 hg5 hat5 p0 p0a
          go_upto_region 13 with (fail)
          obtain ⟨WT, hWT⟩ : ∃ W, w5.setCell ⟨g, 0, none⟩ (.slice a7 (k + 1) s7) = W := ⟨_, rfl⟩
          rw [hWT] at HM2 ⊢
          have hmt := HM2.out
          have hatb := HATB.out.below hmt.bel (by have := HG.out; omega)
          have hlb := hatb.lt
          rw [← HSC.out] at hatb
          have q6 := hatb.cell 6
          have p2 := hmt.at_.cell 2
          simp only [List.getElem?_toArray, List.getElem?_cons_zero, List.getElem?_cons_succ] at q6 p2
          have hlg2 := hmt.at_.lt
          clear hWT r0 rf hatb HMK hcut hk5 hk6 hk7 hkn hc3 hc4
          by_cases hl : k < n5
          · obtain ⟨y, hy⟩ := some_get (l := s.levels) (i := k) (by rw [HN5.out]; exact hl)
            obtain ⟨yb, yo, hA, hyb, y0⟩ := u8_get (L5.out.below (hmt.bel.mono hBg)) hy
            subst hA
            have hy255 := HSZ.out.level y (List.mem_of_getElem? hy)
            have hlv : Sm.lvl s k = y % (NL + 1) := by unfold Sm.lvl; rw [HN5.out, if_pos hl, getD9 hy, HNL.out]
            have hki5 : (k : Int) < (n5 : Int) := by omega
            have hw1 : IntKind.i64.wrap ((NL : Int) + 1) = (NL : Int) + 1 := IntWalk.i64_in _ ⟨by omega, by omega⟩
            have hw0 : (((NL : Int) + 1) == 0) = false := by rw [beq_eq_false_iff_ne]; omega
            have hw00 : ¬ ((NL : Int) + 1 = 0) := by omega
            clear hmt hy hl
            by_cases h0 : y % (NL + 1) = 0
            · have hLV : (y : Int).tmod ((NL : Int) + 1) = 0 := by rw [tmod_nat, h0]; rfl
              have hw2 : IntKind.i64.wrap 0 = 0 := rfl
              have HS0 := Lib.hid (levs_none s k (by rw [hlv]; exact h0))
              clear h0 hlv
              go_wp2_with fail
              go_quiet (fail)
              go_wp2_with fail
              go_roundw
              case rel => exact ⟨k + 1, a7, s7, a, sz, pl, by omega, by go_num, HM2.out.drewN _, by rw [HPL.out, HS0.out]⟩
              case measure => simp [intOf]; omega
            · obtain ⟨j, hj⟩ : ∃ j, y % (NL + 1) = j + 1 := ⟨y % (NL + 1) - 1, by omega⟩
              have hjn : j < NL := by have := Nat.mod_lt y (show 0 < NL + 1 by omega); omega
              have hLV : (y : Int).tmod ((NL : Int) + 1) = (j : Int) + 1 := by rw [tmod_nat, hj]; rfl
              have hw2 : IntKind.i64.wrap ((j : Int) + 1) = (j : Int) + 1 := IntWalk.i64_in _ ⟨by omega, by omega⟩
              have hj1 : (0 : Int) < (j : Int) + 1 := by omega
              have HS0 := Lib.hid (levs_set s k j (by rw [hlv]; exact hj))
              clear h0 hlv hj
              go_wp2_with fail
              go_quiet (fail)
              go_wp2_with fail
              generalize hWD : WT.drewN _ = WD
              have HMD := Lib.hid (show Mk g W0 g (.slice a7 (k + 1) s7) (k + 1) ((List.range (k + 1)).map Sm.tok) (.slice a NL sz) NL pl (.slice none 0 0) 0 [] WD from hWD ▸ HM2.out.drewN _)
              have hmd := HMD.out
              have p2 := hmd.at_.cell 2
              simp only [List.getElem?_toArray, List.getElem?_cons_zero, List.getElem?_cons_succ] at p2
              have hlg2 := hmd.at_.lt
              obtain ⟨q, hq⟩ := some_get (l := pl) (i := j) (by have h1 := congrArg List.length HPL.out; rw [List.length_map] at h1; rw [h1]; unfold Sm.levs; rw [List.length_map, List.length_range, HNL.out]; exact hjn)
              have hqe : q.1 = Sm.lev s k j := by
                have h1 : (pl.map (·.1))[j]? = some q.1 := by simp [hq]
                rw [HPL.out] at h1
                unfold Sm.levs at h1
                rw [List.getElem?_map, List.getElem?_range (by rw [HNL.out]; exact hjn)] at h1
                simpa using h1.symm
              obtain ⟨A', c', hv, hlie⟩ := (hmd.ln q (List.mem_of_getElem? hq)).2
              have hne : namesV q.1.names ≠ [] := by rw [hqe]; unfold Sm.lev namesV; simp
              obtain ⟨nb, no, hA', hnb, hnc⟩ := hlie.cell hne
              subst hA'
              rcases own_shape hmd.lv with ⟨_, h0, _⟩ | ⟨lb, cp, hvl, _, _, _, hlbl⟩
              · omega
              simp only [Value.slice.injEq, true_and] at hvl
              obtain ⟨rfl, rfl⟩ := hvl
              obtain ⟨cur, hcur⟩ := own_at hmd.lv
              have HCUR := Lib.hid hcur
              have y1 : WD.cell? ⟨lb, j * 2 + 1, none⟩ = some (.slice (some ⟨nb, no, none⟩) q.1.names.length c') := by
                obtain ⟨b9, o9, h9, _, h10⟩ := (Lie.own hmd.lv).cell (fun e => by
                  have h : (levsC pl)[j * 2 + 0]? = some (.int .i64 q.2.2) := flat_get levC 2 (fun _ => rfl) pl j 0 q _ hq (by omega) rfl
                  rw [e] at h; simp at h)
                simp only [Option.some.injEq, Addr.mk.injEq, and_true] at h9
                obtain ⟨rfl, rfl⟩ := h9
                have h : (levsC pl)[j * 2 + 1]? = some q.2.1 := flat_get levC 2 (fun _ => rfl) pl j 1 q _ hq (by omega) rfl
                have := h10 _ _ h
                rw [Nat.zero_add, hv] at this
                exact this
              have HJP := Lib.hid hq
              have HQE := Lib.hid hqe
              obtain ⟨m, hm⟩ : ∃ m, q.1.names.length = m := ⟨_, rfl⟩
              rw [hm] at y1
              have HML := Lib.hid hm
              have hm6 : m ≤ 6 := by
                rw [← hm, hqe]
                unfold Sm.lev
                rw [List.length_cons, List.length_map]
                have := List.length_filter_le (fun i => Sm.lvl s i == j + 1) (List.range k)
                rw [List.length_range] at this
                omega
              obtain ⟨NV, hNV⟩ : ∃ NV, namesV q.1.names = NV := ⟨_, rfl⟩
              have HNVE := Lib.hid hNV
              rw [hNV] at hnc
              have HLE := Lib.hid (show NV.length = m * 1 by rw [← hNV, ← hm]; simp [namesV])
              have HON := Lib.hid (show ∀ u ∈ NV, u.oneCell' = true from fun u hu => by
                rw [← hNV] at hu; simp only [namesV, List.mem_map] at hu; obtain ⟨_, _, rfl⟩ := hu; rfl)
              have HCE := Lib.hid (show ∀ w', Below WD.heap.size WD w' → ∀ i u, NV[i]? = some u → w'.cell? ((⟨nb, no, none⟩ : Addr).add i) = some u from fun w' hb i u hu => by
                rw [Go.WideShapes.add_plain]; exact (hb.cell (p := ⟨nb, no + i, none⟩) hnb).trans (hnc i u hu))
              have hc5 : 0 + m ≤ maxLen := by unfold maxLen; omega
              have hc6 : (0 + m) * 16 ≤ 140737488355328 := by omega
              have hc7 : m + 1 ≤ maxLen := by unfold maxLen; omega
              have hc8 : (m + 1) * 16 ≤ 140737488355328 := by omega
              have hji : (j : Int) < (NL : Int) := by omega
              have hj0 : (0 : Int) ≤ (j : Int) := by omega
              have hwj : IntKind.i64.wrap ((j : Int) + 1 - 1) = (j : Int) := by rw [IntWalk.i64_in _ ⟨by omega, by omega⟩]; omega
              have hwj2 : IntKind.i64.wrap (j : Int) = (j : Int) := IntWalk.i64_in _ ⟨by omega, by omega⟩
              have hz0 : Below WD.heap.size WD WD.drew := below_drew (Below.refl _ _)
              clear hmd hq hqe hv hlie hne hnc hcur hm hNV hWD HM2 y0 q6 hLV hw1 hw0 hw00 hw2
              refine Zed.begin_ (fun w' => Below WD.heap.size WD w') [18] (by kernel_rfl) ?_
              refine Zed.pure (i := 0) (v := ?vb0) rfl (by kernel_rfl) (by kernel_rfl) (by kernel_rfl) (by kernel_rfl) (by kernel_rfl) (fun _ _ _ h => h) (Or.inl ⟨by rfl, ?hyb0⟩) (.inr hz0) ?restb0
              case hyb0 => (intro w _; go_simp; try with_reducible rfl)
              try simp only [Act.put, List.setIfInBounds_toArray, List.set_cons_zero, List.set_cons_succ]
              refine Zed.take (i := 1) (v := ?vb1) rfl (by kernel_rfl) (by kernel_rfl) (by kernel_rfl) (by kernel_rfl) (by kernel_rfl) (fun _ _ _ h => h) (Or.inl ⟨by rfl, ?hyb1⟩) hz0 ?restb1
              case hyb1 => (intro w hSw; (try dsimp only at hSw); have hc := (hSw.cell (p := ⟨g, 2, none⟩) hlg2).trans p2; go_simp; try with_reducible rfl)
              try simp only [Act.put, List.setIfInBounds_toArray, List.set_cons_zero, List.set_cons_succ]
              refine Zed.pure (i := 2) (v := ?vb2) rfl (by kernel_rfl) (by kernel_rfl) (by kernel_rfl) (by kernel_rfl) (by kernel_rfl) (fun _ _ _ h => h) (Or.inl ⟨by rfl, ?hyb2⟩) (.inr hz0) ?restb2
              case hyb2 => (intro w _; go_simp; try with_reducible rfl)
              try simp only [Act.put, List.setIfInBounds_toArray, List.set_cons_zero, List.set_cons_succ]
              refine Zed.pure (i := 3) (v := ?vb3) rfl (by kernel_rfl) (by kernel_rfl) (by kernel_rfl) (by kernel_rfl) (by kernel_rfl) (fun _ _ _ h => h) (Or.inl ⟨by rfl, ?hyb3⟩) (.inr hz0) ?restb3
              case hyb3 => (intro w _; go_simp; try with_reducible rfl)
              try simp only [Act.put, List.setIfInBounds_toArray, List.set_cons_zero, List.set_cons_succ]
              refine Zed.pure (i := 5) (v := ?vb5) rfl (by kernel_rfl) (by kernel_rfl) (by kernel_rfl) (by kernel_rfl) (by kernel_rfl) (fun _ _ _ h => h) (Or.inl ⟨by rfl, ?hyb5⟩) (.inr hz0) ?restb5
              case hyb5 => (intro w _; go_simp; try with_reducible rfl)
              try simp only [Act.put, List.setIfInBounds_toArray, List.set_cons_zero, List.set_cons_succ]
              refine Zed.take (i := 6) (v := ?vb6) rfl (by kernel_rfl) (by kernel_rfl) (by kernel_rfl) (by kernel_rfl) (by kernel_rfl) (fun _ _ _ h => h) (Or.inl ⟨by rfl, ?hyb6⟩) hz0 ?restb6
              case hyb6 => (intro w hSw; (try dsimp only at hSw); have hc := (hSw.cell (p := ⟨g, 2, none⟩) hlg2).trans p2; go_simp; try with_reducible rfl)
              try simp only [Act.put, List.setIfInBounds_toArray, List.set_cons_zero, List.set_cons_succ]
              refine Zed.pure (i := 7) (v := ?vb7) rfl (by kernel_rfl) (by kernel_rfl) (by kernel_rfl) (by kernel_rfl) (by kernel_rfl) (fun _ _ _ h => h) (Or.inl ⟨by rfl, ?hyb7⟩) (.inr hz0) ?restb7
              case hyb7 => (intro w _; go_simp; try with_reducible rfl)
              try simp only [Act.put, List.setIfInBounds_toArray, List.set_cons_zero, List.set_cons_succ]
              refine Zed.pure (i := 8) (v := ?vb8) rfl (by kernel_rfl) (by kernel_rfl) (by kernel_rfl) (by kernel_rfl) (by kernel_rfl) (fun _ _ _ h => h) (Or.inl ⟨by rfl, ?hyb8⟩) (.inr hz0) ?restb8
              case hyb8 => (intro w _; go_simp; try with_reducible rfl)
              try simp only [Act.put, List.setIfInBounds_toArray, List.set_cons_zero, List.set_cons_succ]
              refine Zed.pure (i := 9) (v := ?vb9) rfl (by kernel_rfl) (by kernel_rfl) (by kernel_rfl) (by kernel_rfl) (by kernel_rfl) (fun _ _ _ h => h) (Or.inl ⟨by rfl, ?hyb9⟩) (.inr hz0) ?restb9
              case hyb9 => (intro w _; go_simp; try with_reducible rfl)
              try simp only [Act.put, List.setIfInBounds_toArray, List.set_cons_zero, List.set_cons_succ]
              refine Zed.pure (i := 10) (v := ?vb10) rfl (by kernel_rfl) (by kernel_rfl) (by kernel_rfl) (by kernel_rfl) (by kernel_rfl) (fun _ _ _ h => h) (Or.inl ⟨by rfl, ?hyb10⟩) (.inr hz0) ?restb10
              case hyb10 => (intro w _; go_simp; try with_reducible rfl)
              try simp only [Act.put, List.setIfInBounds_toArray, List.set_cons_zero, List.set_cons_succ]
              refine Zed.take (i := 11) (v := ?vb11) rfl (by kernel_rfl) (by kernel_rfl) (by kernel_rfl) (by kernel_rfl) (by kernel_rfl) (fun _ _ _ h => h) (Or.inl ⟨by rfl, ?hyb11⟩) hz0 ?restb11
              case hyb11 => (intro w hSw; (try dsimp only at hSw); have hc := (hSw.cell (p := ⟨lb, j * 2 + 1, none⟩) hlbl).trans y1; go_simp; try with_reducible rfl)
              try simp only [Act.put, List.setIfInBounds_toArray, List.set_cons_zero, List.set_cons_succ]
              refine Zed.pure (i := 13) (v := ?vb13) rfl (by kernel_rfl) (by kernel_rfl) (by kernel_rfl) (by kernel_rfl) (by kernel_rfl) (fun _ _ _ h => h) (Or.inl ⟨by rfl, ?hyb13⟩) (.inr hz0) ?restb13
              case hyb13 => (intro w _; go_simp; try with_reducible rfl)
              try simp only [Act.put, List.setIfInBounds_toArray, List.set_cons_zero, List.set_cons_succ]
              refine Zed.two (i := 4) (j := 14) (by kernel_rfl) rfl rfl (fun K hK => ?_) (fun K hK => ?_)
              · go_simp
                have hz1 := hz0.alloc hz0.size (.cells #[] 9)
                have hE := own_none9 WD.drew 9 1
                refine hK.out _ _ (.inr hz1) ?_
                clear hK K
                try simp only [Act.put, List.setIfInBounds_toArray, List.set_cons_zero, List.set_cons_succ]
                refine Zed.two (i := 12) (j := 14) (by kernel_rfl) rfl rfl (fun K hK => ?_) (fun K hK => ?_)
                · refine step_append_own2 rfl _ _ 30 rfl WD.heap.size 9 iS _ 1 16 Tryz.underlying30 hiS hS0 hS1 hS2 rfl (by decide) _ 0 [] rfl hE ⟨nb, no, none⟩ m c' NV rfl HLE.out (HCE.out _ hz1) HON.out hc5 hc6 hz1.size ?_
                  intro v5 w5 hown5 hg5 hn5
                  rw [Nat.zero_add, List.nil_append] at hown5
                  obtain ⟨a5, s5, rfl⟩ := own_form hown5
                  have hz2 := hz1.grown hg5 hz1.size (fun j hj => (own_lt hE j hj).1)
                  refine hK.out _ _ (.inr hz2) ?_
                  clear hK K
                  try simp only [Act.put, List.setIfInBounds_toArray, List.set_cons_zero, List.set_cons_succ]
                  refine Zed.one (i := 14) (by kernel_rfl) rfl (fun K hK => ?_)
                  go_simp
                  have hz3 := hz2.alloc hz2.size (.cells #[.string X] 9)
                  refine hK.out _ _ (.inr hz3) ?_
                  clear hK K
                  try simp only [Act.put, List.setIfInBounds_toArray, List.set_cons_zero, List.set_cons_succ]
                  refine Zed.one (i := 15) (by kernel_rfl) rfl (fun K hK => ?_)
                  refine step_append_own2 rfl _ _ 30 rfl WD.heap.size 9 iS _ 1 16 Tryz.underlying30 hiS hS0 hS1 hS2 rfl (by decide) _ m NV rfl (hown5.alloc _) ⟨w5.heap.size, 0, none⟩ 1 1 [.string X] rfl rfl (cells_new _ _ _) (by simp [Value.oneCell']) hc7 hc8 hz3.size ?_
                  intro v6 w6 hown6 hg6 hn6
                  obtain ⟨a6, s6, rfl⟩ := own_form hown6
                  have hz6 := hz3.grown hg6 hz3.size (fun j hj => (own_lt hown5 j hj).1)
                  have r1 := (hz6.cell (p := ⟨lb, j * 2 + 1, none⟩) hlbl).trans y1
                  have rf := (HCUR.out.below hz6 hlbl).frozen
                  refine hK.out _ _ (.inr hz6) ?_
                  clear hK K
                  try simp only [Act.put, List.setIfInBounds_toArray, List.set_cons_zero, List.set_cons_succ]
                  refine Zed.pure (i := 16) (v := ?vc16) rfl (by kernel_rfl) (by kernel_rfl) (by kernel_rfl) (by kernel_rfl) (by kernel_rfl) (fun _ _ _ h => h) (Or.inl ⟨by rfl, ?hyc16⟩) (.inr hz6) ?restc16
                  case hyc16 => (intro w _; go_simp; try with_reducible rfl)
                  try simp only [Act.put, List.setIfInBounds_toArray, List.set_cons_zero, List.set_cons_succ]
                  refine Zed.pure (i := 17) (v := ?vc17) rfl (by kernel_rfl) (by kernel_rfl) (by kernel_rfl) (by kernel_rfl) (by kernel_rfl) (fun _ _ _ h => h) (Or.inl ⟨by rfl, ?hyc17⟩) (.inr hz6) ?restc17
                  case hyc17 => (intro w _; go_simp; try with_reducible rfl)
                  try simp only [Act.put, List.setIfInBounds_toArray, List.set_cons_zero, List.set_cons_succ]
                  refine Zed.one (i := 18) (by kernel_rfl) rfl (fun K hK => ?_)
                  go_simp
                  refine hK.out _ _ (.inl (by kernel_rfl)) ?_
                  clear hK K
                  try simp only [Act.put, List.setIfInBounds_toArray, List.set_cons_zero, List.set_cons_succ]
                  refine Zed.all (by kernel_rfl) ?_ _
                  have hF := (HMD.out.below hz6).setL HJP.out (v' := .slice a6 (m + 1) s6) (l := q.1.names ++ [Sm.abc k]) ⟨a6, s6, by rw [List.length_append, HML.out]; rfl, by
                    have e : namesV (q.1.names ++ [Sm.abc k]) = NV ++ [.string X] := by unfold namesV; rw [List.map_append, ← HNVE.out, ← HXE.out]; rfl
                    rw [e]; exact Lie.own hown6⟩
                  have HF := Lib.hid hF
                  clear hF hown6 hg6 hn6 hown5 hg5 hn5 r1 rf y1 p2
                  go_wp2_with fail
                  go_roundw
                  case rel => exact ⟨k + 1, a7, s7, some ⟨lb, 0, none⟩, sz, _, by omega, by go_num, HF.out, by rw [List.map_set, HPL.out, HS0.out, HQE.out]⟩
                  case measure => simp [intOf]; omega
                · go_simp
                  have hz2 := hz1.alloc hz1.size (.cells #[.string X] 9)
                  have hX2 := At.new (WD.drew.alloc (.cells #[] 9)) 9 #[.string X]
                  rw [World.size_alloc] at hX2
                  refine hK.out _ _ (.inr hz2) ?_
                  clear hK K
                  try simp only [Act.put, List.setIfInBounds_toArray, List.set_cons_zero, List.set_cons_succ]
                  refine Zed.one (i := 12) (by kernel_rfl) rfl (fun K hK => ?_)
                  refine step_append_own2 rfl _ _ 30 rfl WD.heap.size 9 iS _ 1 16 Tryz.underlying30 hiS hS0 hS1 hS2 rfl (by decide) _ 0 [] rfl (hE.alloc _) ⟨nb, no, none⟩ m c' NV rfl HLE.out (HCE.out _ hz2) HON.out hc5 hc6 hz2.size ?_
                  intro v5 w5 hown5 hg5 hn5
                  rw [Nat.zero_add, List.nil_append] at hown5
                  obtain ⟨a5, s5, rfl⟩ := own_form hown5
                  have hz3 := hz2.grown hg5 hz2.size (fun j hj => (own_lt hE j hj).1)
                  have hX3 := hX2.grown hg5 (fun e => by
                    have h : WD.heap.size + 1 < (WD.drew.alloc (.cells #[] 9)).heap.size := (own_lt hE _ e.symm).2
                    rw [World.size_alloc] at h
                    exact Nat.lt_irrefl _ h)
                  refine hK.out _ _ (.inr hz3) ?_
                  clear hK K
                  try simp only [Act.put, List.setIfInBounds_toArray, List.set_cons_zero, List.set_cons_succ]
                  refine Zed.one (i := 15) (by kernel_rfl) rfl (fun K hK => ?_)
                  refine step_append_own2 rfl _ _ 30 rfl WD.heap.size 9 iS _ 1 16 Tryz.underlying30 hiS hS0 hS1 hS2 rfl (by decide) _ m NV rfl hown5 ⟨WD.heap.size + 1, 0, none⟩ 1 1 [.string X] rfl rfl (cells_at hX3) (by simp [Value.oneCell']) hc7 hc8 hz3.size ?_
                  intro v6 w6 hown6 hg6 hn6
                  obtain ⟨a6, s6, rfl⟩ := own_form hown6
                  have hz6 := hz3.grown hg6 hz3.size (fun j hj => (own_lt hown5 j hj).1)
                  have r1 := (hz6.cell (p := ⟨lb, j * 2 + 1, none⟩) hlbl).trans y1
                  have rf := (HCUR.out.below hz6 hlbl).frozen
                  refine hK.out _ _ (.inr hz6) ?_
                  clear hK K
                  try simp only [Act.put, List.setIfInBounds_toArray, List.set_cons_zero, List.set_cons_succ]
                  refine Zed.pure (i := 16) (v := ?vd16) rfl (by kernel_rfl) (by kernel_rfl) (by kernel_rfl) (by kernel_rfl) (by kernel_rfl) (fun _ _ _ h => h) (Or.inl ⟨by rfl, ?hyd16⟩) (.inr hz6) ?restd16
                  case hyd16 => (intro w _; go_simp; try with_reducible rfl)
                  try simp only [Act.put, List.setIfInBounds_toArray, List.set_cons_zero, List.set_cons_succ]
                  refine Zed.pure (i := 17) (v := ?vd17) rfl (by kernel_rfl) (by kernel_rfl) (by kernel_rfl) (by kernel_rfl) (by kernel_rfl) (fun _ _ _ h => h) (Or.inl ⟨by rfl, ?hyd17⟩) (.inr hz6) ?restd17
                  case hyd17 => (intro w _; go_simp; try with_reducible rfl)
                  try simp only [Act.put, List.setIfInBounds_toArray, List.set_cons_zero, List.set_cons_succ]
                  refine Zed.one (i := 18) (by kernel_rfl) rfl (fun K hK => ?_)
                  go_simp
                  refine hK.out _ _ (.inl (by kernel_rfl)) ?_
                  clear hK K
                  try simp only [Act.put, List.setIfInBounds_toArray, List.set_cons_zero, List.set_cons_succ]
                  refine Zed.all (by kernel_rfl) ?_ _
                  have hF := (HMD.out.below hz6).setL HJP.out (v' := .slice a6 (m + 1) s6) (l := q.1.names ++ [Sm.abc k]) ⟨a6, s6, by rw [List.length_append, HML.out]; rfl, by
                    have e : namesV (q.1.names ++ [Sm.abc k]) = NV ++ [.string X] := by unfold namesV; rw [List.map_append, ← HNVE.out, ← HXE.out]; rfl
                    rw [e]; exact Lie.own hown6⟩
                  have HF := Lib.hid hF
                  clear hF hown6 hg6 hn6 hown5 hg5 hn5 r1 rf y1 p2
                  go_wp2_with fail
                  go_roundw
                  case rel => exact ⟨k + 1, a7, s7, some ⟨lb, 0, none⟩, sz, _, by omega, by go_num, HF.out, by rw [List.map_set, HPL.out, HS0.out, HQE.out]⟩
                  case measure => simp [intOf]; omega
              · go_simp
                have hz1 := hz0.alloc hz0.size (.cells #[.string X] 9)
                have hX1 := At.new WD.drew 9 #[.string X]
                refine hK.out _ _ (.inr hz1) ?_
                clear hK K
                try simp only [Act.put, List.setIfInBounds_toArray, List.set_cons_zero, List.set_cons_succ]
                refine Zed.one (i := 4) (by kernel_rfl) rfl (fun K hK => ?_)
                go_simp
                have hz2 := hz1.alloc hz1.size (.cells #[] 9)
                have hE0 := own_none9 (WD.drew.alloc (.cells #[.string X] 9)) 9 1
                have hE := own_base hE0 hz1.size
                rw [World.size_alloc] at hE0 hE
                have hX2 := hX1.alloc (.cells #[] 9)
                refine hK.out _ _ (.inr hz2) ?_
                clear hK K
                try simp only [Act.put, List.setIfInBounds_toArray, List.set_cons_zero, List.set_cons_succ]
                refine Zed.one (i := 12) (by kernel_rfl) rfl (fun K hK => ?_)
                refine step_append_own2 rfl _ _ 30 rfl WD.heap.size 9 iS _ 1 16 Tryz.underlying30 hiS hS0 hS1 hS2 rfl (by decide) _ 0 [] rfl hE ⟨nb, no, none⟩ m c' NV rfl HLE.out (HCE.out _ hz2) HON.out hc5 hc6 hz2.size ?_
                intro v5 w5 hown5 hg5 hn5
                rw [Nat.zero_add, List.nil_append] at hown5
                obtain ⟨a5, s5, rfl⟩ := own_form hown5
                have hz3 := hz2.grown hg5 hz2.size (fun j hj => (own_lt hE j hj).1)
                have hX3 := hX2.grown hg5 (fun e => by
                  have h : WD.heap.size + 1 ≤ WD.heap.size := (own_lt hE0 _ e.symm).1
                  exact Nat.not_succ_le_self _ h)
                refine hK.out _ _ (.inr hz3) ?_
                clear hK K
                try simp only [Act.put, List.setIfInBounds_toArray, List.set_cons_zero, List.set_cons_succ]
                refine Zed.one (i := 15) (by kernel_rfl) rfl (fun K hK => ?_)
                refine step_append_own2 rfl _ _ 30 rfl WD.heap.size 9 iS _ 1 16 Tryz.underlying30 hiS hS0 hS1 hS2 rfl (by decide) _ m NV rfl hown5 ⟨WD.heap.size, 0, none⟩ 1 1 [.string X] rfl rfl (cells_at hX3) (by simp [Value.oneCell']) hc7 hc8 hz3.size ?_
                intro v6 w6 hown6 hg6 hn6
                obtain ⟨a6, s6, rfl⟩ := own_form hown6
                have hz6 := hz3.grown hg6 hz3.size (fun j hj => (own_lt hown5 j hj).1)
                have r1 := (hz6.cell (p := ⟨lb, j * 2 + 1, none⟩) hlbl).trans y1
                have rf := (HCUR.out.below hz6 hlbl).frozen
                refine hK.out _ _ (.inr hz6) ?_
                clear hK K
                try simp only [Act.put, List.setIfInBounds_toArray, List.set_cons_zero, List.set_cons_succ]
                refine Zed.pure (i := 16) (v := ?ve16) rfl (by kernel_rfl) (by kernel_rfl) (by kernel_rfl) (by kernel_rfl) (by kernel_rfl) (fun _ _ _ h => h) (Or.inl ⟨by rfl, ?hye16⟩) (.inr hz6) ?reste16
                case hye16 => (intro w _; go_simp; try with_reducible rfl)
                try simp only [Act.put, List.setIfInBounds_toArray, List.set_cons_zero, List.set_cons_succ]
                refine Zed.pure (i := 17) (v := ?ve17) rfl (by kernel_rfl) (by kernel_rfl) (by kernel_rfl) (by kernel_rfl) (by kernel_rfl) (fun _ _ _ h => h) (Or.inl ⟨by rfl, ?hye17⟩) (.inr hz6) ?reste17
                case hye17 => (intro w _; go_simp; try with_reducible rfl)
                try simp only [Act.put, List.setIfInBounds_toArray, List.set_cons_zero, List.set_cons_succ]
                refine Zed.one (i := 18) (by kernel_rfl) rfl (fun K hK => ?_)
                go_simp
                refine hK.out _ _ (.inl (by kernel_rfl)) ?_
                clear hK K
                try simp only [Act.put, List.setIfInBounds_toArray, List.set_cons_zero, List.set_cons_succ]
                refine Zed.all (by kernel_rfl) ?_ _
                have hF := (HMD.out.below hz6).setL HJP.out (v' := .slice a6 (m + 1) s6) (l := q.1.names ++ [Sm.abc k]) ⟨a6, s6, by rw [List.length_append, HML.out]; rfl, by
                  have e : namesV (q.1.names ++ [Sm.abc k]) = NV ++ [.string X] := by unfold namesV; rw [List.map_append, ← HNVE.out, ← HXE.out]; rfl
                  rw [e]; exact Lie.own hown6⟩
                have HF := Lib.hid hF
                clear hF hown6 hg6 hn6 hown5 hg5 hn5 r1 rf y1 p2
                go_wp2_with fail
                go_roundw
                case rel => exact ⟨k + 1, a7, s7, some ⟨lb, 0, none⟩, sz, _, by omega, by go_num, HF.out, by rw [List.map_set, HPL.out, HS0.out, HQE.out]⟩
                case measure => simp [intOf]; omega
          · have hlv : Sm.lvl s k = 0 := by unfold Sm.lvl; rw [HN5.out, if_neg hl]
            have HS0 := Lib.hid (levs_none s k hlv)
            have hki5 : ¬ (k : Int) < (n5 : Int) := by omega
            clear hmt hl hlv
            go_wp2_with fail
            go_roundw
            case rel => exact ⟨k + 1, a7, s7, a, sz, pl, by omega, by go_num, HM2.out, by rw [HPL.out, HS0.out]⟩
            case measure => simp [intOf]; omega
        · obtain rfl : NT = k := by omega
          clear hmk hpl hat p0a
          go_wp2_with fail
          clear p0 hlg
          obtain ⟨W2, hW2⟩ : ∃ W2, wr = W2 := ⟨_, rfl⟩
          rw [hW2] at HMK ⊢
          clear hW2 hk
          go_loopw [10] (fun i wr => ∃ (k : Nat) (aR : Option Addr) (sR : Nat) (qr : List (Rd.Rule × Value)), k ≤ n1 ∧ i = .int .i64 (k : Int) ∧ Mk g W0 g (.slice aT NT sT) NT ((List.range NT).map Sm.tok) (.slice a NL sz) NL pl (.slice aR k sR) k qr wr ∧ qr.map (·.1) = (List.range k).map (Sm.rule s)) (fun i _ => n1 - (intOf i).toNat)
          case atStart => exact ⟨0, none, 0, [], by omega, rfl, HMK.out, rfl⟩
          case round =>
            clear HMK
            obtain ⟨k, aR, sR, qr, hk, rfl, hmk, hqr⟩ := hrel
            obtain ⟨WR, hWR⟩ : ∃ W, wr = W := ⟨_, rfl⟩
            rw [hWR] at hmk ⊢
            clear hWR wr
            have HMK := Lib.hid hmk
            have HQR := Lib.hid hqr
            have hatb := HATB.out.below hmk.bel (by have := HG.out; omega)
            have hlb := hatb.lt
            rw [← HSC.out] at hatb
            have HATBB := Lib.hid hatb
            have q2 := hatb.cell 2
            simp only [List.getElem?_toArray, List.getElem?_cons_zero, List.getElem?_cons_succ] at q2
            by_cases hlt : k < n1
            · obtain ⟨x, hx⟩ := some_get (l := s.lefts) (i := k) (by rw [HN1.out]; exact hlt)
              obtain ⟨ab, ao, hA, hab, y0⟩ := u8_get (L1.out.below (hmk.bel.mono hBg)) hx
              subst hA
              have habw : ab < WR.heap.size := by have := hmk.size; omega
              have HX := Lib.hid (getD9 (d := 0) hx)
              obtain ⟨v, hv⟩ : ∃ v, x % NV = v := ⟨_, rfl⟩
              have hvl : v < NV := by rw [← hv]; exact Nat.mod_lt _ (by omega)
              have HV := Lib.hid hv
              have hcut := cut_stuv v (by omega)
              obtain ⟨X, hX⟩ : ∃ X, str (Sm.stuv v) = X := ⟨_, rfl⟩
              rw [hX] at hcut
              have HXE := Lib.hid hX
              have hAS : (x : Int).tmod (NV : Int) = (v : Int) := by rw [tmod_nat0, hv]
              have hw0 : ((NV : Int) == 0) = false := by rw [beq_eq_false_iff_ne]; omega
              have hw00 : ¬ NV = 0 := by omega
              have hwx : IntKind.i64.wrap (x : Int) = (x : Int) := IntWalk.i64_in _ ⟨by omega, by have := HSZ.out.left x (List.mem_of_getElem? hx); omega⟩
              have hw1 : IntKind.i64.wrap (v : Int) = (v : Int) := IntWalk.i64_in _ ⟨by omega, by omega⟩
              have hw2 : IntKind.i64.wrap ((v : Int) + 1) = (v : Int) + 1 := IntWalk.i64_in _ ⟨by omega, by omega⟩
              have hki : (k : Int) < (n1 : Int) := by omega
              have hk0 : (0 : Int) ≤ (k : Int) := by omega
              have hv4 : (v : Int) + 1 ≤ 4 := by omega
              have hv6 : (0 : Int) ≤ (v : Int) + 1 := by omega
              have hv0 : (0 : Int) ≤ (v : Int) := by omega
              have hv7 : (v : Int) ≤ (v : Int) + 1 := by omega
              have hvn : ((v : Int) + 1).toNat = v + 1 := by omega
              have hz0 : Below WR.heap.size WR WR.drew := below_drew (Below.refl _ _)
              have hsz := hmk.size
              clear hmk hqr hatb hx hX hv
              go_wp2_with fail
              refine Zed.begin_ (fun w' => Below WR.heap.size WR w') [20] (by kernel_rfl) ?_
              refine Zed.pure (i := 0) (v := ?vf0) rfl (by kernel_rfl) (by kernel_rfl) (by kernel_rfl) (by kernel_rfl) (by kernel_rfl) (fun _ _ _ h => h) (Or.inl ⟨by rfl, ?hyf0⟩) (.inr hz0) ?restf0
              case hyf0 => (intro w _; go_simp; try with_reducible rfl)
              try simp only [Act.put, List.setIfInBounds_toArray, List.set_cons_zero, List.set_cons_succ]
              refine Zed.take (i := 1) (v := ?vf1) rfl (by kernel_rfl) (by kernel_rfl) (by kernel_rfl) (by kernel_rfl) (by kernel_rfl) (fun _ _ _ h => h) (Or.inl ⟨by rfl, ?hyf1⟩) hz0 ?restf1
              case hyf1 => (intro w hSw; (try dsimp only at hSw); have hc := (hSw.cell (p := ⟨gb, 2, none⟩) hlb).trans q2; go_simp; try with_reducible rfl)
              try simp only [Act.put, List.setIfInBounds_toArray, List.set_cons_zero, List.set_cons_succ]
              refine Zed.pure (i := 2) (v := ?vf2) rfl (by kernel_rfl) (by kernel_rfl) (by kernel_rfl) (by kernel_rfl) (by kernel_rfl) (fun _ _ _ h => h) (Or.inl ⟨by rfl, ?hyf2⟩) (.inr hz0) ?restf2
              case hyf2 => (intro w _; go_simp; try with_reducible rfl)
              try simp only [Act.put, List.setIfInBounds_toArray, List.set_cons_zero, List.set_cons_succ]
              refine Zed.pure (i := 3) (v := ?vf3) rfl (by kernel_rfl) (by kernel_rfl) (by kernel_rfl) (by kernel_rfl) (by kernel_rfl) (fun _ _ _ h => h) (Or.inl ⟨by rfl, ?hyf3⟩) (.inr hz0) ?restf3
              case hyf3 => (intro w _; go_simp; try with_reducible rfl)
              try simp only [Act.put, List.setIfInBounds_toArray, List.set_cons_zero, List.set_cons_succ]
              refine Zed.take (i := 4) (v := ?vf4) rfl (by kernel_rfl) (by kernel_rfl) (by kernel_rfl) (by kernel_rfl) (by kernel_rfl) (fun _ _ _ h => h) (Or.inl ⟨by rfl, ?hyf4⟩) hz0 ?restf4
              case hyf4 => (intro w hSw; (try dsimp only at hSw); have hc := (hSw.cell (p := ⟨ab, ao + k, none⟩) habw).trans y0; go_simp; try with_reducible rfl)
              try simp only [Act.put, List.setIfInBounds_toArray, List.set_cons_zero, List.set_cons_succ]
              refine Zed.pure (i := 5) (v := ?vf5) rfl (by kernel_rfl) (by kernel_rfl) (by kernel_rfl) (by kernel_rfl) (by kernel_rfl) (fun _ _ _ h => h) (Or.inl ⟨by rfl, ?hyf5⟩) (.inr hz0) ?restf5
              case hyf5 => (intro w _; go_simp; try with_reducible rfl)
              try simp only [Act.put, List.setIfInBounds_toArray, List.set_cons_zero, List.set_cons_succ]
              refine Zed.pure (i := 6) (v := ?vf6) rfl (by kernel_rfl) (by kernel_rfl) (by kernel_rfl) (by kernel_rfl) (by kernel_rfl) (fun _ _ _ h => h) (Or.inl ⟨by rfl, ?hyf6⟩) (.inr hz0) ?restf6
              case hyf6 => (intro w _; go_simp; try with_reducible rfl)
              try simp only [Act.put, List.setIfInBounds_toArray, List.set_cons_zero, List.set_cons_succ]
              refine Zed.pure (i := 7) (v := ?vf7) rfl (by kernel_rfl) (by kernel_rfl) (by kernel_rfl) (by kernel_rfl) (by kernel_rfl) (fun _ _ _ h => h) (Or.inl ⟨by rfl, ?hyf7⟩) (.inr hz0) ?restf7
              case hyf7 => (intro w _; go_simp; try with_reducible rfl)
              try simp only [Act.put, List.setIfInBounds_toArray, List.set_cons_zero, List.set_cons_succ]
              refine Zed.pure (i := 8) (v := ?vf8) rfl (by kernel_rfl) (by kernel_rfl) (by kernel_rfl) (by kernel_rfl) (by kernel_rfl) (fun _ _ _ h => h) (Or.inl ⟨by rfl, ?hyf8⟩) (.inr hz0) ?restf8
              case hyf8 => (intro w _; go_simp; try with_reducible rfl)
              try simp only [Act.put, List.setIfInBounds_toArray, List.set_cons_zero, List.set_cons_succ]
              refine Zed.take (i := 9) (v := ?vf9) rfl (by kernel_rfl) (by kernel_rfl) (by kernel_rfl) (by kernel_rfl) (by kernel_rfl) (fun _ _ _ h => h) (Or.inl ⟨by rfl, ?hyf9⟩) hz0 ?restf9
              case hyf9 => (intro w hSw; (try dsimp only at hSw); have hc := (hSw.cell (p := ⟨gb, 2, none⟩) hlb).trans q2; go_simp; try with_reducible rfl)
              try simp only [Act.put, List.setIfInBounds_toArray, List.set_cons_zero, List.set_cons_succ]
              refine Zed.pure (i := 10) (v := ?vf10) rfl (by kernel_rfl) (by kernel_rfl) (by kernel_rfl) (by kernel_rfl) (by kernel_rfl) (fun _ _ _ h => h) (Or.inl ⟨by rfl, ?hyf10⟩) (.inr hz0) ?restf10
              case hyf10 => (intro w _; go_simp; try with_reducible rfl)
              try simp only [Act.put, List.setIfInBounds_toArray, List.set_cons_zero, List.set_cons_succ]
              refine Zed.pure (i := 11) (v := ?vf11) rfl (by kernel_rfl) (by kernel_rfl) (by kernel_rfl) (by kernel_rfl) (by kernel_rfl) (fun _ _ _ h => h) (Or.inl ⟨by rfl, ?hyf11⟩) (.inr hz0) ?restf11
              case hyf11 => (intro w _; go_simp; try with_reducible rfl)
              try simp only [Act.put, List.setIfInBounds_toArray, List.set_cons_zero, List.set_cons_succ]
              refine Zed.take (i := 12) (v := ?vf12) rfl (by kernel_rfl) (by kernel_rfl) (by kernel_rfl) (by kernel_rfl) (by kernel_rfl) (fun _ _ _ h => h) (Or.inl ⟨by rfl, ?hyf12⟩) hz0 ?restf12
              case hyf12 => (intro w hSw; (try dsimp only at hSw); have hc := (hSw.cell (p := ⟨ab, ao + k, none⟩) habw).trans y0; go_simp; try with_reducible rfl)
              try simp only [Act.put, List.setIfInBounds_toArray, List.set_cons_zero, List.set_cons_succ]
              refine Zed.pure (i := 13) (v := ?vf13) rfl (by kernel_rfl) (by kernel_rfl) (by kernel_rfl) (by kernel_rfl) (by kernel_rfl) (fun _ _ _ h => h) (Or.inl ⟨by rfl, ?hyf13⟩) (.inr hz0) ?restf13
              case hyf13 => (intro w _; go_simp; try with_reducible rfl)
              try simp only [Act.put, List.setIfInBounds_toArray, List.set_cons_zero, List.set_cons_succ]
              refine Zed.pure (i := 14) (v := ?vf14) rfl (by kernel_rfl) (by kernel_rfl) (by kernel_rfl) (by kernel_rfl) (by kernel_rfl) (fun _ _ _ h => h) (Or.inl ⟨by rfl, ?hyf14⟩) (.inr hz0) ?restf14
              case hyf14 => (intro w _; go_simp; try with_reducible rfl)
              try simp only [Act.put, List.setIfInBounds_toArray, List.set_cons_zero, List.set_cons_succ]
              refine Zed.pure (i := 15) (v := ?vf15) rfl (by kernel_rfl) (by kernel_rfl) (by kernel_rfl) (by kernel_rfl) (by kernel_rfl) (fun _ _ _ h => h) (Or.inl ⟨by rfl, ?hyf15⟩) (.inr hz0) ?restf15
              case hyf15 => (intro w _; go_simp; try with_reducible rfl)
              try simp only [Act.put, List.setIfInBounds_toArray, List.set_cons_zero, List.set_cons_succ]
              refine Zed.pure (i := 16) (v := ?vf16) rfl (by kernel_rfl) (by kernel_rfl) (by kernel_rfl) (by kernel_rfl) (by kernel_rfl) (fun _ _ _ h => h) (Or.inl ⟨by rfl, ?hyf16⟩) (.inr hz0) ?restf16
              case hyf16 => (intro w _; go_simp; try with_reducible rfl)
              try simp only [Act.put, List.setIfInBounds_toArray, List.set_cons_zero, List.set_cons_succ]
              refine Zed.pure (i := 17) (v := ?vf17) rfl (by kernel_rfl) (by kernel_rfl) (by kernel_rfl) (by kernel_rfl) (by kernel_rfl) (fun _ _ _ h => h) (Or.inl ⟨by rfl, ?hyf17⟩) (.inr hz0) ?restf17
              case hyf17 => (intro w _; go_simp; try with_reducible rfl)
              try simp only [Act.put, List.setIfInBounds_toArray, List.set_cons_zero, List.set_cons_succ]
              refine Zed.pure (i := 18) (v := ?vf18) rfl (by kernel_rfl) (by kernel_rfl) (by kernel_rfl) (by kernel_rfl) (by kernel_rfl) (fun _ _ _ h => h) (Or.inl ⟨by rfl, ?hyf18⟩) (.inr hz0) ?restf18
              case hyf18 => (intro w _; go_simp; try with_reducible rfl)
              try simp only [Act.put, List.setIfInBounds_toArray, List.set_cons_zero, List.set_cons_succ]
              refine Zed.one (i := 19) (by kernel_rfl) rfl (fun K hK => ?_)
              go_simp
              have hz1 := hz0.alloc hz0.size (.cells #[.string ⟨#[]⟩, .slice none 0 0, .string ⟨#[]⟩, .string ⟨#[]⟩] 117)
              refine hK.out _ _ (.inr hz1) ?_
              clear hK K
              try simp only [Act.put, List.setIfInBounds_toArray, List.set_cons_zero, List.set_cons_succ]
              refine Zed.one (i := 20) (by kernel_rfl) rfl (fun K hK => ?_)
              go_simp
              refine hK.out _ _ (.inl (by kernel_rfl)) ?_
              clear hK K
              try simp only [Act.put, List.setIfInBounds_toArray, List.set_cons_zero, List.set_cons_succ]
              refine Zed.all (by kernel_rfl) ?_ _
              obtain ⟨gx, hgx⟩ : ∃ g, WR.heap.size = g := ⟨_, rfl⟩
              have hx3 := (At.new WR 117 #[.string X, .slice none 0 0, .string ⟨#[]⟩, .string ⟨#[]⟩]).drew
              have hB3 := below_drew ((Below.refl WR.heap.size WR).alloc (Nat.le_refl _) (.cells #[.string X, .slice none 0 0, .string ⟨#[]⟩, .string ⟨#[]⟩] 117))
              have hs3 : ((WR.alloc (.cells #[.string X, .slice none 0 0, .string ⟨#[]⟩, .string ⟨#[]⟩] 117)).drew).heap.size = WR.heap.size + 1 := by show (WR.alloc _).heap.size = _; rw [World.size_alloc]
              obtain ⟨W3, hW3⟩ : ∃ W, (WR.alloc (.cells #[.string X, .slice none 0 0, .string ⟨#[]⟩, .string ⟨#[]⟩] 117)).drew = W := ⟨_, rfl⟩
              rw [hW3] at hx3 hB3 hs3 ⊢
              rw [hgx] at hx3 hB3 hs3 ⊢
              have HGX := Lib.hid (show WR.heap.size = gx ∧ W3.heap.size = gx + 1 from ⟨hgx, hs3⟩)
              have HX3 := Lib.hid hx3
              have HB3 := Lib.hid hB3
              have hatb3 := HATBB.out.below hB3 (by rw [← hgx]; exact hlb)
              have HATB3 := Lib.hid hatb3
              have t3 := hatb3.cell 3
              simp only [List.getElem?_toArray, List.getElem?_cons_zero, List.getElem?_cons_succ] at t3
              have hgbx : gb < gx := by rw [← hgx]; exact hlb
              have hBx : g ≤ gx := by rw [← hgx]; exact hsz
              clear hx3 hB3 hs3 hatb3 hW3 hgx q2 y0 hz0 hz1 hcut hAS hw0 hw00 hwx hw1 hw2 hv4 hv6 hv0 hv7 hvn hsz
              by_cases hr : k < n2
              · obtain ⟨p, hp⟩ := some_get (l := ql) (i := k) (by rw [HQL.out]; exact hr)
                have hpm := List.mem_of_getElem? hp
                obtain ⟨A, c, he, hcl⟩ := J2.out p hpm
                have hpv : (ql.map (·.2))[k]? = some p.2 := by simp [hp]
                obtain ⟨rb, ro, hA, hrb, hrc⟩ := L2.out.ex (fun e => by rw [e] at hpv; simp at hpv)
                subst hA
                have hrb0 := hrc _ _ hpv
                rw [he] at hrb0
                have HRC := Lib.hid (show ∀ w', Below gx WR w' → w'.cell? ⟨rb, ro + k, none⟩ = some (.slice A p.1.length c) from fun w' hb => by
                  have h1 := (HMK.out.bel.cell (p := ⟨rb, ro + k, none⟩) (Nat.lt_of_lt_of_le hrb hBg)).trans hrb0
                  exact (hb.cell (p := ⟨rb, ro + k, none⟩) (Nat.lt_of_lt_of_le hrb (Nat.le_trans hBg hBx))).trans h1)
                have HPC := Lib.hid (show ∀ w', Below gx WR w' → Cl w' B A (u8V p.1) from fun w' hb => (hcl.below (HMK.out.bel.mono hBg)).below (hb.mono (Nat.le_trans hBg hBx)))
                have hrk : s.rights[k]? = some p.1 := by rw [← HQ3.out, List.getElem?_map, hp]; rfl
                have HRT := Lib.hid (show Sm.right s k = p.1.map (Sm.name s) by unfold Sm.right; rw [HN2.out, if_pos hr, getD9 hrk])
                have hm8 := HR8.out p.1 (List.mem_of_getElem? hrk)
                have HP255 := Lib.hid ((HSZ.out.right p.1 (List.mem_of_getElem? hrk)).2)
                obtain ⟨m2, hm2⟩ : ∃ m, p.1.length = m := ⟨_, rfl⟩
                rw [hm2] at HRC hm8
                have HM2L := Lib.hid hm2
                have y3 := HRC.out W3 HB3.out
                have hkr : (k : Int) < (n2 : Int) := by omega
                clear hp hpm he hcl hpv hrc hrb0 hrk hm2
                go_wp2_with fail
                clear t3 y3
                go_loopw [12] (fun i wr => ∃ (q : Nat) (aN : Option Addr) (sN : Nat), q ≤ m2 ∧ i = .int .i64 (q : Int) ∧ At wr gx 117 #[.string X, .slice aN q sN, .string ⟨#[]⟩, .string ⟨#[]⟩] ∧ wr.ownsRow (gx + 1) 9 1 (.slice aN q sN) q (namesV ((p.1.map (Sm.name s)).take q)) ∧ Below gx WR wr) (fun i _ => m2 - (intOf i).toNat)
                case atStart => exact ⟨0, none, 0, by omega, rfl, HX3.out, World.ownsRow_nil _ _ _ _, HB3.out⟩
                case round =>
                  clear HX3 HB3 HATB3
                  obtain ⟨q, aN, sN, hq, rfl, hxr, hor, hbr⟩ := hrel
                  have HXR := Lib.hid hxr
                  have HOR := Lib.hid hor
                  have HBR := Lib.hid hbr
                  have hatbr := HATBB.out.below (hbr.mono (Nat.le_refl _)) hgbx
                  have t3 := hatbr.cell 3
                  have hlbr := hatbr.lt
                  have hlxr := hxr.lt
                  simp only [List.getElem?_toArray, List.getElem?_cons_zero, List.getElem?_cons_succ] at t3
                  have y3 := HRC.out wr hbr
                  by_cases hql : q < m2
                  · obtain ⟨y, hy⟩ := some_get (l := p.1) (i := q) (by rw [HM2L.out]; exact hql)
                    obtain ⟨pb, po, hA, hpb, y4⟩ := u8_get (HPC.out wr hbr) hy
                    subst hA
                    have hy255 := HP255.out y (List.mem_of_getElem? hy)
                    obtain ⟨n, hn⟩ : ∃ n, y % (NT + NV) = n := ⟨_, rfl⟩
                    have hnl : n < NT + NV := by rw [← hn]; exact Nat.mod_lt _ (by omega)
                    have HNN := Lib.hid hn
                    have HYQ := Lib.hid hy
                    have hne : (y : Int) % ((NT : Int) + (NV : Int)) = (n : Int) := by rw [← hn]; rfl
                    have hqi : (q : Int) < (m2 : Int) := by omega
                    have hq0 : (0 : Int) ≤ (q : Int) := by omega
                    have c0 := hxr.cell 0
                    have c1 := hxr.cell 1
                    have cf := hxr.frozen 1
                    simp only [List.getElem?_toArray, List.getElem?_cons_zero, List.getElem?_cons_succ] at c0 c1
                    clear hxr hor hbr hatbr hn
                    have hny : Sm.name s y = if n < NT then Sm.abc n else Sm.stuv (n - NT) := by
                      have e1 := HNT.out
                      have e2 := HNV.out
                      unfold Sm.name
                      rw [e1, e2, HNN.out]
                    obtain ⟨Y, hY⟩ : ∃ Y, str (Sm.name s y) = Y := ⟨_, rfl⟩
                    have HY := Lib.hid (show namesV ((p.1.map (Sm.name s)).take (q + 1)) = namesV ((p.1.map (Sm.name s)).take q) ++ [.string Y] by
                      rw [List.take_add_one, List.getElem?_map, HYQ.out, ← hY]; simp [namesV])
                    have hc3 : q + 1 ≤ maxLen := by unfold maxLen; omega
                    have hc4 : (q + 1) * 16 ≤ 140737488355328 := by omega
                    by_cases hnn : n < NT
                    · have hg1 : ¬ ((NT : Int) ≤ (n : Int)) := by omega
                      rw [if_pos hnn] at hny
                      have hcut : (⟨#[97, 98, 99, 100, 101]⟩ : ByteArray).extract (n % 5) (n % 5 + 1) = Y := by
                        rw [show n % 5 = n by omega, cut_abc n (by omega), ← hny, hY]
                      clear hY hny
                      go_upto_region 26 with (fail)
                      rw [hne]
                      go_upto_region 29 with (fail)
                      rw [hcut]
                      clear hcut hne
                      go_wp2_with (at_builtin; refine wpList_append_own2 _ rfl _ _ 30 rfl (gx + 1) 9 iS _ 1 16 Tryz.underlying30 hiS hS0 hS1 hS2 rfl (by decide) _ _ _ rfl (HOR.out.alloc _) ⟨wr.heap.size, 0, none⟩ 1 1 [.string Y] rfl rfl (cells_new _ _ _) (by simp [Value.oneCell']) hc3 hc4 (by simp; omega) ?_)
                      intro v' w5 hown5 hg5 _
                      obtain ⟨a5, s5, rfl⟩ := own_form hown5
                      have hx5 := (HXR.out.alloc (.cells #[.string Y] 9)).grown hg5 (fun e => own_apart HOR.out HXR.out (by decide) e.symm)
                      have r1 := hx5.cell 1
                      have rf := hx5.frozen 1
                      simp only [List.getElem?_toArray, List.getElem?_cons_zero, List.getElem?_cons_succ] at r1
                      have HX5 := Lib.hid hx5
                      have HO5 := Lib.hid (show w5.ownsRow (gx + 1) 9 1 (.slice a5 (q + 1) s5) (q + 1) (namesV ((p.1.map (Sm.name s)).take (q + 1))) by rw [HY.out]; exact hown5)
                      have hgxw : gx ≤ wr.heap.size := Nat.le_of_lt hlxr
                      have HB5 := Lib.hid (((HBR.out.alloc hgxw (.cells #[.string Y] 9))).grown hg5 (by rw [World.size_alloc]; omega) (fun j hj => by have := (own_lt HOR.out j hj).1; omega))
                      clear hown5 hg5 hx5 c0 c1 cf
                      go_wp2_with fail
                      go_roundw
                      case rel =>
                        refine ⟨q + 1, a5, s5, by omega, by go_num, ?_, ?_, ?_⟩
                        · have := HX5.out.set 1 (.slice a5 (q + 1) s5)
                          simpa using this
                        · exact own_stay HO5.out (Stay.far HX5.out (by decide) (grown_set (grown_refl _ _) 1 _))
                        · exact below_grown HB5.out (grown_set (g := gx) (grown_refl _ _) 1 _) (by have := HX5.out.lt; omega) (Nat.le_refl _)
                      case measure => simp [intOf]; omega
                    · have hg1 : (NT : Int) ≤ (n : Int) := by omega
                      rw [if_neg hnn] at hny
                      have hcut : (⟨#[83, 84, 85, 86]⟩ : ByteArray).extract (n - NT) (n - NT + 1) = Y := by
                        rw [cut_stuv (n - NT) (by omega), ← hny, hY]
                      clear hY hny
                      go_upto_region 26 with (fail)
                      rw [hne]
                      go_upto_region 29 with (fail)
                      rw [hcut]
                      clear hcut hne
                      go_wp2_with (at_builtin; refine wpList_append_own2 _ rfl _ _ 30 rfl (gx + 1) 9 iS _ 1 16 Tryz.underlying30 hiS hS0 hS1 hS2 rfl (by decide) _ _ _ rfl (HOR.out.alloc _) ⟨wr.heap.size, 0, none⟩ 1 1 [.string Y] rfl rfl (cells_new _ _ _) (by simp [Value.oneCell']) hc3 hc4 (by simp; omega) ?_)
                      intro v' w5 hown5 hg5 _
                      obtain ⟨a5, s5, rfl⟩ := own_form hown5
                      have hx5 := (HXR.out.alloc (.cells #[.string Y] 9)).grown hg5 (fun e => own_apart HOR.out HXR.out (by decide) e.symm)
                      have r1 := hx5.cell 1
                      have rf := hx5.frozen 1
                      simp only [List.getElem?_toArray, List.getElem?_cons_zero, List.getElem?_cons_succ] at r1
                      have HX5 := Lib.hid hx5
                      have HO5 := Lib.hid (show w5.ownsRow (gx + 1) 9 1 (.slice a5 (q + 1) s5) (q + 1) (namesV ((p.1.map (Sm.name s)).take (q + 1))) by rw [HY.out]; exact hown5)
                      have hgxw : gx ≤ wr.heap.size := Nat.le_of_lt hlxr
                      have HB5 := Lib.hid (((HBR.out.alloc hgxw (.cells #[.string Y] 9))).grown hg5 (by rw [World.size_alloc]; omega) (fun j hj => by have := (own_lt HOR.out j hj).1; omega))
                      clear hown5 hg5 hx5 c0 c1 cf
                      go_wp2_with fail
                      go_roundw
                      case rel =>
                        refine ⟨q + 1, a5, s5, by omega, by go_num, ?_, ?_, ?_⟩
                        · have := HX5.out.set 1 (.slice a5 (q + 1) s5)
                          simpa using this
                        · exact own_stay HO5.out (Stay.far HX5.out (by decide) (grown_set (grown_refl _ _) 1 _))
                        · exact below_grown HB5.out (grown_set (g := gx) (grown_refl _ _) 1 _) (by have := HX5.out.lt; omega) (Nat.le_refl _)
                      case measure => simp [intOf]; omega
                  · obtain rfl : m2 = q := by omega
                    have HNR := Lib.hid (show Nms wr (.slice aN m2 sN) (Sm.right s k) by
                      rw [HRT.out]
                      have e : (p.1.map (Sm.name s)).take m2 = p.1.map (Sm.name s) := by rw [← HM2L.out, ← List.length_map (f := Sm.name s), List.take_length]
                      have h := Lie.own hor
                      rw [e] at h
                      exact ⟨aN, sN, by rw [List.length_map, HM2L.out], h⟩)
                    clear hxr hor hbr hatbr hlxr
                    go_upto_region 30 with (fail)
                    clear t3 y3 hlbr
                    obtain ⟨WX, hWX⟩ : ∃ W, wr = W := ⟨_, rfl⟩
                    rw [hWX] at HXR HBR HNR ⊢
                    clear hWX HOR
                    have hatx := HATBB.out.below HBR.out hgbx
                    have t4 := hatx.cell 4
                    have hlbx := hatx.lt
                    simp only [List.getElem?_toArray, List.getElem?_cons_zero, List.getElem?_cons_succ] at t4
                    have HMX := Lib.hid (HMK.out.below (show Below WR.heap.size WR WX by rw [HGX.out.1]; exact HBR.out))
                    clear hatx
                    by_cases hpk : k < n3
                    · obtain ⟨y, hy⟩ := some_get (l := s.precs) (i := k) (by rw [HN3.out]; exact hpk)
                      obtain ⟨pb, po, hA, hpb, y4⟩ := u8_get (L3.out.below (HMX.out.bel.mono hBg)) hy
                      subst hA
                      have hy255 := HSZ.out.prec y (List.mem_of_getElem? hy)
                      have hprc : Sm.prc s k = y % (NL + 1) := by unfold Sm.prc; rw [HN3.out, if_pos hpk, getD9 hy, HNL.out]
                      have hkp : (k : Int) < (n3 : Int) := by omega
                      have hw1 : IntKind.i64.wrap ((NL : Int) + 1) = (NL : Int) + 1 := IntWalk.i64_in _ ⟨by omega, by omega⟩
                      have hw0 : (((NL : Int) + 1) == 0) = false := by rw [beq_eq_false_iff_ne]; omega
                      have hw00 : ¬ ((NL : Int) + 1 = 0) := by omega
                      have hmx := HMX.out.at_.cell 2
                      have hlgx := HMX.out.at_.lt
                      simp only [List.getElem?_toArray, List.getElem?_cons_zero, List.getElem?_cons_succ] at hmx
                      clear hy
                      by_cases h0 : y % (NL + 1) = 0
                      · have hLV : (y : Int).tmod ((NL : Int) + 1) = 0 := by rw [tmod_nat, h0]; rfl
                        have hw2 : IntKind.i64.wrap 0 = 0 := rfl
                        have HPRE := Lib.hid (show str (Sm.prec s k) = ⟨#[]⟩ by unfold Sm.prec; rw [hprc, h0]; rfl)
                        clear h0 hprc
                        go_wp2_with fail
                        go_quiet (fail)
                        go_upto_region 34 with (fail)
                        generalize hWP : WX.drewN _ = WP
                        have HXP := Lib.hid (show At WP gx 117 #[.string X, (.slice aN m2 sN), .string ⟨#[]⟩, .string ⟨#[]⟩] from hWP ▸ HXR.out.drewN _)
                        have HMP := Lib.hid (show Mk g W0 g (.slice aT NT sT) NT ((List.range NT).map Sm.tok) (.slice a NL sz) NL pl (.slice aR k sR) k qr WP from hWP ▸ HMX.out.drewN _)
                        have HNP := Lib.hid (show Nms WP (.slice aN m2 sN) (Sm.right s k) from hWP ▸ HNR.out.stay (Stay.below (below_drewN (Below.refl _ _) _)))
                        clear hWP t4 y4 hmx hLV hw0 hw00 hw1 hw2
                        have hmp := HMP.out
                        have r4 := hmp.at_.cell 4
                        have u0 := HXP.out.cell 0
                        have u1 := HXP.out.cell 1
                        have u2 := HXP.out.cell 2
                        have u3 := HXP.out.cell 3
                        simp only [List.getElem?_toArray, List.getElem?_cons_zero, List.getElem?_cons_succ] at r4 u0 u1 u2 u3
                        have hlgp := hmp.at_.lt
                        have hlxp := HXP.out.lt
                        have HOWR := Lib.hid hmp.rl
                        have HATP := Lib.hid hmp.at_
                        have hszp := hmp.size
                        have hc3 : k + 1 ≤ maxLen := by unfold maxLen; omega
                        have hc4 : (k + 1) * 72 ≤ 140737488355328 := by omega
                        clear hmp
                        go_wp2_with (at_builtin; refine wpList_append_own2 _ rfl _ _ 82 rfl g 117 iR _ 4 72 Tryz.underlying82 hiR hR0 hR1 hR2 rfl (by decide) _ _ _ rfl (HOWR.out.alloc _) ⟨WP.heap.size, 0, none⟩ 1 1 [.string X, (.slice aN m2 sN), .string ⟨#[]⟩, .string ⟨#[]⟩] rfl rfl (cells_new _ _ _) (by simp [Value.oneCell']) hc3 hc4 (by simp; omega) ?_)
                        intro v' w5 hown5 hg5 _
                        obtain ⟨a8, s8, rfl⟩ := own_form hown5
                        have hat5 := (HATP.out.alloc (.cells #[.string X, (.slice aN m2 sN), .string ⟨#[]⟩, .string ⟨#[]⟩] 117)).grown hg5 (fun e => own_apart HOWR.out HATP.out (by decide) e.symm)
                        have w4 := hat5.cell 4
                        have wf := hat5.frozen 4
                        simp only [List.getElem?_toArray, List.getElem?_cons_zero, List.getElem?_cons_succ] at w4
                        have HM5 := Lib.hid (Mk.putR (x := Sm.rule s k) (v := (.slice aN m2 sN)) (HMP.out.alloc (.cells #[.string X, (.slice aN m2 sN), .string ⟨#[]⟩, .string ⟨#[]⟩] 117)) (show w5.ownsRow g 117 4 (.slice a8 (k + 1) s8) (k + 1) (rulesV (qr ++ [(Sm.rule s k, (.slice aN m2 sN))])) by
                          have e : rulesV [(Sm.rule s k, (.slice aN m2 sN))] = [.string X, (.slice aN m2 sN), .string ⟨#[]⟩, .string ⟨#[]⟩] := by
                            show [Value.string (str (Sm.stuv (s.lefts.getD k 0 % Sm.nv s))), (.slice aN m2 sN), .string (str (Sm.prec s k)), .string (str [])] = _
                            rw [HX.out, HNV.out, HV.out, HXE.out, HPRE.out]; rfl
                          rw [rulesV_append, e]; exact hown5) hg5 (HNP.out.stay (Stay.below ((Below.refl _ _).alloc (Nat.le_refl _) _))))
                        clear hown5 hg5 hat5 r4 u0 u1 u2 u3
                        go_wp2_with fail
                        go_roundw
                        case rel => exact ⟨k + 1, a8, s8, _, by omega, by go_num, HM5.out, by rw [List.map_append, HQR.out, range_snoc]; rfl⟩
                        case measure => simp [intOf]; omega
                      · obtain ⟨j, hj⟩ : ∃ j, y % (NL + 1) = j + 1 := ⟨y % (NL + 1) - 1, by omega⟩
                        have hjn : j < NL := by have := Nat.mod_lt y (show 0 < NL + 1 by omega); omega
                        have hLV : (y : Int).tmod ((NL : Int) + 1) = (j : Int) + 1 := by rw [tmod_nat, hj]; rfl
                        have hw2 : IntKind.i64.wrap ((j : Int) + 1) = (j : Int) + 1 := IntWalk.i64_in _ ⟨by omega, by omega⟩
                        have hj1 : (0 : Int) < (j : Int) + 1 := by omega
                        have hcut := cut_pqr j (by omega)
                        obtain ⟨PQ, hPQ⟩ : ∃ PQ, str (Sm.pqr j) = PQ := ⟨_, rfl⟩
                        rw [hPQ] at hcut
                        have HPRE := Lib.hid (show str (Sm.prec s k) = PQ by unfold Sm.prec; rw [hprc, hj, if_pos (by omega), Nat.add_sub_cancel, hPQ])
                        clear h0 hprc hj hPQ
                        go_wp2_with fail
                        go_quiet (fail)
                        go_upto_region 33 with (fail)
                        generalize hWQ : WX.drewN _ = WQ
                        have HXQ := Lib.hid (show At WQ gx 117 #[.string X, (.slice aN m2 sN), .string ⟨#[]⟩, .string ⟨#[]⟩] from hWQ ▸ HXR.out.drewN _)
                        have HMQ := Lib.hid (show Mk g W0 g (.slice aT NT sT) NT ((List.range NT).map Sm.tok) (.slice a NL sz) NL pl (.slice aR k sR) k qr WQ from hWQ ▸ HMX.out.drewN _)
                        have HNQ := Lib.hid (show Nms WQ (.slice aN m2 sN) (Sm.right s k) from hWQ ▸ HNR.out.stay (Stay.below (below_drewN (Below.refl _ _) _)))
                        have HBQ := Lib.hid (show Below gx WR WQ from hWQ ▸ below_drewN HBR.out _)
                        have c2 := HXQ.out.cell 2
                        have cf := HXQ.out.frozen 2
                        simp only [List.getElem?_toArray, List.getElem?_cons_zero, List.getElem?_cons_succ] at c2
                        clear hWQ t4 y4 hmx hLV hw0 hw00 hw1
                        go_upto_region 34 with (fail)
                        try rw [hcut]
                        obtain ⟨WP, hWP⟩ : ∃ W, WQ.setCell ⟨gx, 2, none⟩ (.string PQ) = W := ⟨_, rfl⟩
                        rw [hWP]
                        have hset := HXQ.out.set 2 (.string PQ)
                        rw [hWP] at hset
                        have hbq := below_grown HBQ.out (grown_set (g := gx) (grown_refl WQ _) 2 (.string PQ)) (by have := HXQ.out.lt; omega) (Nat.le_refl _)
                        rw [hWP] at hbq
                        have HXP := Lib.hid (show At WP gx 117 #[.string X, (.slice aN m2 sN), .string PQ, .string ⟨#[]⟩] by simpa using hset)
                        have HMP := Lib.hid (HMK.out.below (show Below WR.heap.size WR WP by rw [HGX.out.1]; exact hbq))
                        have HNP := Lib.hid (show Nms WP (.slice aN m2 sN) (Sm.right s k) from hWP ▸ HNQ.out.stay (Stay.far HXQ.out (by decide) (grown_set (grown_refl _ _) 2 _)))
                        clear hWP c2 cf hset hbq hcut hw2
                        have hmp := HMP.out
                        have r4 := hmp.at_.cell 4
                        have u0 := HXP.out.cell 0
                        have u1 := HXP.out.cell 1
                        have u2 := HXP.out.cell 2
                        have u3 := HXP.out.cell 3
                        simp only [List.getElem?_toArray, List.getElem?_cons_zero, List.getElem?_cons_succ] at r4 u0 u1 u2 u3
                        have hlgp := hmp.at_.lt
                        have hlxp := HXP.out.lt
                        have HOWR := Lib.hid hmp.rl
                        have HATP := Lib.hid hmp.at_
                        have hszp := hmp.size
                        have hc3 : k + 1 ≤ maxLen := by unfold maxLen; omega
                        have hc4 : (k + 1) * 72 ≤ 140737488355328 := by omega
                        clear hmp
                        go_wp2_with (at_builtin; refine wpList_append_own2 _ rfl _ _ 82 rfl g 117 iR _ 4 72 Tryz.underlying82 hiR hR0 hR1 hR2 rfl (by decide) _ _ _ rfl (HOWR.out.alloc _) ⟨WP.heap.size, 0, none⟩ 1 1 [.string X, (.slice aN m2 sN), .string PQ, .string ⟨#[]⟩] rfl rfl (cells_new _ _ _) (by simp [Value.oneCell']) hc3 hc4 (by simp; omega) ?_)
                        intro v' w5 hown5 hg5 _
                        obtain ⟨a8, s8, rfl⟩ := own_form hown5
                        have hat5 := (HATP.out.alloc (.cells #[.string X, (.slice aN m2 sN), .string PQ, .string ⟨#[]⟩] 117)).grown hg5 (fun e => own_apart HOWR.out HATP.out (by decide) e.symm)
                        have w4 := hat5.cell 4
                        have wf := hat5.frozen 4
                        simp only [List.getElem?_toArray, List.getElem?_cons_zero, List.getElem?_cons_succ] at w4
                        have HM5 := Lib.hid (Mk.putR (x := Sm.rule s k) (v := (.slice aN m2 sN)) (HMP.out.alloc (.cells #[.string X, (.slice aN m2 sN), .string PQ, .string ⟨#[]⟩] 117)) (show w5.ownsRow g 117 4 (.slice a8 (k + 1) s8) (k + 1) (rulesV (qr ++ [(Sm.rule s k, (.slice aN m2 sN))])) by
                          have e : rulesV [(Sm.rule s k, (.slice aN m2 sN))] = [.string X, (.slice aN m2 sN), .string PQ, .string ⟨#[]⟩] := by
                            show [Value.string (str (Sm.stuv (s.lefts.getD k 0 % Sm.nv s))), (.slice aN m2 sN), .string (str (Sm.prec s k)), .string (str [])] = _
                            rw [HX.out, HNV.out, HV.out, HXE.out, HPRE.out]; rfl
                          rw [rulesV_append, e]; exact hown5) hg5 (HNP.out.stay (Stay.below ((Below.refl _ _).alloc (Nat.le_refl _) _))))
                        clear hown5 hg5 hat5 r4 u0 u1 u2 u3
                        go_wp2_with fail
                        go_roundw
                        case rel => exact ⟨k + 1, a8, s8, _, by omega, by go_num, HM5.out, by rw [List.map_append, HQR.out, range_snoc]; rfl⟩
                        case measure => simp [intOf]; omega
                    · have HPRE := Lib.hid (show str (Sm.prec s k) = ⟨#[]⟩ by unfold Sm.prec Sm.prc; rw [HN3.out, if_neg hpk]; rfl)
                      have hkp : ¬ (k : Int) < (n3 : Int) := by omega
                      go_upto_region 34 with (fail)
                      obtain ⟨WP, hWP⟩ : ∃ W, WX = W := ⟨_, rfl⟩
                      rw [hWP]
                      have HXP := Lib.hid (show At WP gx 117 #[.string X, (.slice aN m2 sN), .string ⟨#[]⟩, .string ⟨#[]⟩] from hWP ▸ HXR.out)
                      have HMP := Lib.hid (show Mk g W0 g (.slice aT NT sT) NT ((List.range NT).map Sm.tok) (.slice a NL sz) NL pl (.slice aR k sR) k qr WP from hWP ▸ HMX.out)
                      have HNP := Lib.hid (show Nms WP (.slice aN m2 sN) (Sm.right s k) from hWP ▸ HNR.out)
                      clear hWP t4
                      have hmp := HMP.out
                      have r4 := hmp.at_.cell 4
                      have u0 := HXP.out.cell 0
                      have u1 := HXP.out.cell 1
                      have u2 := HXP.out.cell 2
                      have u3 := HXP.out.cell 3
                      simp only [List.getElem?_toArray, List.getElem?_cons_zero, List.getElem?_cons_succ] at r4 u0 u1 u2 u3
                      have hlgp := hmp.at_.lt
                      have hlxp := HXP.out.lt
                      have HOWR := Lib.hid hmp.rl
                      have HATP := Lib.hid hmp.at_
                      have hszp := hmp.size
                      have hc3 : k + 1 ≤ maxLen := by unfold maxLen; omega
                      have hc4 : (k + 1) * 72 ≤ 140737488355328 := by omega
                      clear hmp
                      go_wp2_with (at_builtin; refine wpList_append_own2 _ rfl _ _ 82 rfl g 117 iR _ 4 72 Tryz.underlying82 hiR hR0 hR1 hR2 rfl (by decide) _ _ _ rfl (HOWR.out.alloc _) ⟨WP.heap.size, 0, none⟩ 1 1 [.string X, (.slice aN m2 sN), .string ⟨#[]⟩, .string ⟨#[]⟩] rfl rfl (cells_new _ _ _) (by simp [Value.oneCell']) hc3 hc4 (by simp; omega) ?_)
                      intro v' w5 hown5 hg5 _
                      obtain ⟨a8, s8, rfl⟩ := own_form hown5
                      have hat5 := (HATP.out.alloc (.cells #[.string X, (.slice aN m2 sN), .string ⟨#[]⟩, .string ⟨#[]⟩] 117)).grown hg5 (fun e => own_apart HOWR.out HATP.out (by decide) e.symm)
                      have w4 := hat5.cell 4
                      have wf := hat5.frozen 4
                      simp only [List.getElem?_toArray, List.getElem?_cons_zero, List.getElem?_cons_succ] at w4
                      have HM5 := Lib.hid (Mk.putR (x := Sm.rule s k) (v := (.slice aN m2 sN)) (HMP.out.alloc (.cells #[.string X, (.slice aN m2 sN), .string ⟨#[]⟩, .string ⟨#[]⟩] 117)) (show w5.ownsRow g 117 4 (.slice a8 (k + 1) s8) (k + 1) (rulesV (qr ++ [(Sm.rule s k, (.slice aN m2 sN))])) by
                        have e : rulesV [(Sm.rule s k, (.slice aN m2 sN))] = [.string X, (.slice aN m2 sN), .string ⟨#[]⟩, .string ⟨#[]⟩] := by
                          show [Value.string (str (Sm.stuv (s.lefts.getD k 0 % Sm.nv s))), (.slice aN m2 sN), .string (str (Sm.prec s k)), .string (str [])] = _
                          rw [HX.out, HNV.out, HV.out, HXE.out, HPRE.out]; rfl
                        rw [rulesV_append, e]; exact hown5) hg5 (HNP.out.stay (Stay.below ((Below.refl _ _).alloc (Nat.le_refl _) _))))
                      clear hown5 hg5 hat5 r4 u0 u1 u2 u3
                      go_wp2_with fail
                      go_roundw
                      case rel => exact ⟨k + 1, a8, s8, _, by omega, by go_num, HM5.out, by rw [List.map_append, HQR.out, range_snoc]; rfl⟩
                      case measure => simp [intOf]; omega
              · have HNR := Lib.hid (show Nms W3 (.slice none 0 0) (Sm.right s k) by
                  unfold Sm.right
                  rw [HN2.out, if_neg hr]
                  exact Nms.nil _)
                have HXR := HX3
                have HBR := HB3
                have hkr : ¬ (k : Int) < (n2 : Int) := by omega
                clear HX3 HB3 HATB3
                go_upto_region 30 with (fail)
                clear t3
                obtain ⟨WX, hWX⟩ : ∃ W, W3 = W := ⟨_, rfl⟩
                rw [hWX] at HXR HBR HNR ⊢
                clear hWX
                have hatx := HATBB.out.below HBR.out hgbx
                have t4 := hatx.cell 4
                have hlbx := hatx.lt
                simp only [List.getElem?_toArray, List.getElem?_cons_zero, List.getElem?_cons_succ] at t4
                have HMX := Lib.hid (HMK.out.below (show Below WR.heap.size WR WX by rw [HGX.out.1]; exact HBR.out))
                clear hatx
                by_cases hpk : k < n3
                · obtain ⟨y, hy⟩ := some_get (l := s.precs) (i := k) (by rw [HN3.out]; exact hpk)
                  obtain ⟨pb, po, hA, hpb, y4⟩ := u8_get (L3.out.below (HMX.out.bel.mono hBg)) hy
                  subst hA
                  have hy255 := HSZ.out.prec y (List.mem_of_getElem? hy)
                  have hprc : Sm.prc s k = y % (NL + 1) := by unfold Sm.prc; rw [HN3.out, if_pos hpk, getD9 hy, HNL.out]
                  have hkp : (k : Int) < (n3 : Int) := by omega
                  have hw1 : IntKind.i64.wrap ((NL : Int) + 1) = (NL : Int) + 1 := IntWalk.i64_in _ ⟨by omega, by omega⟩
                  have hw0 : (((NL : Int) + 1) == 0) = false := by rw [beq_eq_false_iff_ne]; omega
                  have hw00 : ¬ ((NL : Int) + 1 = 0) := by omega
                  have hmx := HMX.out.at_.cell 2
                  have hlgx := HMX.out.at_.lt
                  simp only [List.getElem?_toArray, List.getElem?_cons_zero, List.getElem?_cons_succ] at hmx
                  clear hy
                  by_cases h0 : y % (NL + 1) = 0
                  · have hLV : (y : Int).tmod ((NL : Int) + 1) = 0 := by rw [tmod_nat, h0]; rfl
                    have hw2 : IntKind.i64.wrap 0 = 0 := rfl
                    have HPRE := Lib.hid (show str (Sm.prec s k) = ⟨#[]⟩ by unfold Sm.prec; rw [hprc, h0]; rfl)
                    clear h0 hprc
                    go_wp2_with fail
                    go_quiet (fail)
                    go_upto_region 34 with (fail)
                    generalize hWP : WX.drewN _ = WP
                    have HXP := Lib.hid (show At WP gx 117 #[.string X, (.slice none 0 0), .string ⟨#[]⟩, .string ⟨#[]⟩] from hWP ▸ HXR.out.drewN _)
                    have HMP := Lib.hid (show Mk g W0 g (.slice aT NT sT) NT ((List.range NT).map Sm.tok) (.slice a NL sz) NL pl (.slice aR k sR) k qr WP from hWP ▸ HMX.out.drewN _)
                    have HNP := Lib.hid (show Nms WP (.slice none 0 0) (Sm.right s k) from hWP ▸ HNR.out.stay (Stay.below (below_drewN (Below.refl _ _) _)))
                    clear hWP t4 y4 hmx hLV hw0 hw00 hw1 hw2
                    have hmp := HMP.out
                    have r4 := hmp.at_.cell 4
                    have u0 := HXP.out.cell 0
                    have u1 := HXP.out.cell 1
                    have u2 := HXP.out.cell 2
                    have u3 := HXP.out.cell 3
                    simp only [List.getElem?_toArray, List.getElem?_cons_zero, List.getElem?_cons_succ] at r4 u0 u1 u2 u3
                    have hlgp := hmp.at_.lt
                    have hlxp := HXP.out.lt
                    have HOWR := Lib.hid hmp.rl
                    have HATP := Lib.hid hmp.at_
                    have hszp := hmp.size
                    have hc3 : k + 1 ≤ maxLen := by unfold maxLen; omega
                    have hc4 : (k + 1) * 72 ≤ 140737488355328 := by omega
                    clear hmp
                    go_wp2_with (at_builtin; refine wpList_append_own2 _ rfl _ _ 82 rfl g 117 iR _ 4 72 Tryz.underlying82 hiR hR0 hR1 hR2 rfl (by decide) _ _ _ rfl (HOWR.out.alloc _) ⟨WP.heap.size, 0, none⟩ 1 1 [.string X, (.slice none 0 0), .string ⟨#[]⟩, .string ⟨#[]⟩] rfl rfl (cells_new _ _ _) (by simp [Value.oneCell']) hc3 hc4 (by simp; omega) ?_)
                    intro v' w5 hown5 hg5 _
                    obtain ⟨a8, s8, rfl⟩ := own_form hown5
                    have hat5 := (HATP.out.alloc (.cells #[.string X, (.slice none 0 0), .string ⟨#[]⟩, .string ⟨#[]⟩] 117)).grown hg5 (fun e => own_apart HOWR.out HATP.out (by decide) e.symm)
                    have w4 := hat5.cell 4
                    have wf := hat5.frozen 4
                    simp only [List.getElem?_toArray, List.getElem?_cons_zero, List.getElem?_cons_succ] at w4
                    have HM5 := Lib.hid (Mk.putR (x := Sm.rule s k) (v := (.slice none 0 0)) (HMP.out.alloc (.cells #[.string X, (.slice none 0 0), .string ⟨#[]⟩, .string ⟨#[]⟩] 117)) (show w5.ownsRow g 117 4 (.slice a8 (k + 1) s8) (k + 1) (rulesV (qr ++ [(Sm.rule s k, (.slice none 0 0))])) by
                      have e : rulesV [(Sm.rule s k, (.slice none 0 0))] = [.string X, (.slice none 0 0), .string ⟨#[]⟩, .string ⟨#[]⟩] := by
                        show [Value.string (str (Sm.stuv (s.lefts.getD k 0 % Sm.nv s))), (.slice none 0 0), .string (str (Sm.prec s k)), .string (str [])] = _
                        rw [HX.out, HNV.out, HV.out, HXE.out, HPRE.out]; rfl
                      rw [rulesV_append, e]; exact hown5) hg5 (HNP.out.stay (Stay.below ((Below.refl _ _).alloc (Nat.le_refl _) _))))
                    clear hown5 hg5 hat5 r4 u0 u1 u2 u3
                    go_wp2_with fail
                    go_roundw
                    case rel => exact ⟨k + 1, a8, s8, _, by omega, by go_num, HM5.out, by rw [List.map_append, HQR.out, range_snoc]; rfl⟩
                    case measure => simp [intOf]; omega
                  · obtain ⟨j, hj⟩ : ∃ j, y % (NL + 1) = j + 1 := ⟨y % (NL + 1) - 1, by omega⟩
                    have hjn : j < NL := by have := Nat.mod_lt y (show 0 < NL + 1 by omega); omega
                    have hLV : (y : Int).tmod ((NL : Int) + 1) = (j : Int) + 1 := by rw [tmod_nat, hj]; rfl
                    have hw2 : IntKind.i64.wrap ((j : Int) + 1) = (j : Int) + 1 := IntWalk.i64_in _ ⟨by omega, by omega⟩
                    have hj1 : (0 : Int) < (j : Int) + 1 := by omega
                    have hcut := cut_pqr j (by omega)
                    obtain ⟨PQ, hPQ⟩ : ∃ PQ, str (Sm.pqr j) = PQ := ⟨_, rfl⟩
                    rw [hPQ] at hcut
                    have HPRE := Lib.hid (show str (Sm.prec s k) = PQ by unfold Sm.prec; rw [hprc, hj, if_pos (by omega), Nat.add_sub_cancel, hPQ])
                    clear h0 hprc hj hPQ
                    go_wp2_with fail
                    go_quiet (fail)
                    go_upto_region 33 with (fail)
                    generalize hWQ : WX.drewN _ = WQ
                    have HXQ := Lib.hid (show At WQ gx 117 #[.string X, (.slice none 0 0), .string ⟨#[]⟩, .string ⟨#[]⟩] from hWQ ▸ HXR.out.drewN _)
                    have HMQ := Lib.hid (show Mk g W0 g (.slice aT NT sT) NT ((List.range NT).map Sm.tok) (.slice a NL sz) NL pl (.slice aR k sR) k qr WQ from hWQ ▸ HMX.out.drewN _)
                    have HNQ := Lib.hid (show Nms WQ (.slice none 0 0) (Sm.right s k) from hWQ ▸ HNR.out.stay (Stay.below (below_drewN (Below.refl _ _) _)))
                    have HBQ := Lib.hid (show Below gx WR WQ from hWQ ▸ below_drewN HBR.out _)
                    have c2 := HXQ.out.cell 2
                    have cf := HXQ.out.frozen 2
                    simp only [List.getElem?_toArray, List.getElem?_cons_zero, List.getElem?_cons_succ] at c2
                    clear hWQ t4 y4 hmx hLV hw0 hw00 hw1
                    go_upto_region 34 with (fail)
                    try rw [hcut]
                    obtain ⟨WP, hWP⟩ : ∃ W, WQ.setCell ⟨gx, 2, none⟩ (.string PQ) = W := ⟨_, rfl⟩
                    rw [hWP]
                    have hset := HXQ.out.set 2 (.string PQ)
                    rw [hWP] at hset
                    have hbq := below_grown HBQ.out (grown_set (g := gx) (grown_refl WQ _) 2 (.string PQ)) (by have := HXQ.out.lt; omega) (Nat.le_refl _)
                    rw [hWP] at hbq
                    have HXP := Lib.hid (show At WP gx 117 #[.string X, (.slice none 0 0), .string PQ, .string ⟨#[]⟩] by simpa using hset)
                    have HMP := Lib.hid (HMK.out.below (show Below WR.heap.size WR WP by rw [HGX.out.1]; exact hbq))
                    have HNP := Lib.hid (show Nms WP (.slice none 0 0) (Sm.right s k) from hWP ▸ HNQ.out.stay (Stay.far HXQ.out (by decide) (grown_set (grown_refl _ _) 2 _)))
                    clear hWP c2 cf hset hbq hcut hw2
                    have hmp := HMP.out
                    have r4 := hmp.at_.cell 4
                    have u0 := HXP.out.cell 0
                    have u1 := HXP.out.cell 1
                    have u2 := HXP.out.cell 2
                    have u3 := HXP.out.cell 3
                    simp only [List.getElem?_toArray, List.getElem?_cons_zero, List.getElem?_cons_succ] at r4 u0 u1 u2 u3
                    have hlgp := hmp.at_.lt
                    have hlxp := HXP.out.lt
                    have HOWR := Lib.hid hmp.rl
                    have HATP := Lib.hid hmp.at_
                    have hszp := hmp.size
                    have hc3 : k + 1 ≤ maxLen := by unfold maxLen; omega
                    have hc4 : (k + 1) * 72 ≤ 140737488355328 := by omega
                    clear hmp
                    go_wp2_with (at_builtin; refine wpList_append_own2 _ rfl _ _ 82 rfl g 117 iR _ 4 72 Tryz.underlying82 hiR hR0 hR1 hR2 rfl (by decide) _ _ _ rfl (HOWR.out.alloc _) ⟨WP.heap.size, 0, none⟩ 1 1 [.string X, (.slice none 0 0), .string PQ, .string ⟨#[]⟩] rfl rfl (cells_new _ _ _) (by simp [Value.oneCell']) hc3 hc4 (by simp; omega) ?_)
                    intro v' w5 hown5 hg5 _
                    obtain ⟨a8, s8, rfl⟩ := own_form hown5
                    have hat5 := (HATP.out.alloc (.cells #[.string X, (.slice none 0 0), .string PQ, .string ⟨#[]⟩] 117)).grown hg5 (fun e => own_apart HOWR.out HATP.out (by decide) e.symm)
                    have w4 := hat5.cell 4
                    have wf := hat5.frozen 4
                    simp only [List.getElem?_toArray, List.getElem?_cons_zero, List.getElem?_cons_succ] at w4
                    have HM5 := Lib.hid (Mk.putR (x := Sm.rule s k) (v := (.slice none 0 0)) (HMP.out.alloc (.cells #[.string X, (.slice none 0 0), .string PQ, .string ⟨#[]⟩] 117)) (show w5.ownsRow g 117 4 (.slice a8 (k + 1) s8) (k + 1) (rulesV (qr ++ [(Sm.rule s k, (.slice none 0 0))])) by
                      have e : rulesV [(Sm.rule s k, (.slice none 0 0))] = [.string X, (.slice none 0 0), .string PQ, .string ⟨#[]⟩] := by
                        show [Value.string (str (Sm.stuv (s.lefts.getD k 0 % Sm.nv s))), (.slice none 0 0), .string (str (Sm.prec s k)), .string (str [])] = _
                        rw [HX.out, HNV.out, HV.out, HXE.out, HPRE.out]; rfl
                      rw [rulesV_append, e]; exact hown5) hg5 (HNP.out.stay (Stay.below ((Below.refl _ _).alloc (Nat.le_refl _) _))))
                    clear hown5 hg5 hat5 r4 u0 u1 u2 u3
                    go_wp2_with fail
                    go_roundw
                    case rel => exact ⟨k + 1, a8, s8, _, by omega, by go_num, HM5.out, by rw [List.map_append, HQR.out, range_snoc]; rfl⟩
                    case measure => simp [intOf]; omega
                · have HPRE := Lib.hid (show str (Sm.prec s k) = ⟨#[]⟩ by unfold Sm.prec Sm.prc; rw [HN3.out, if_neg hpk]; rfl)
                  have hkp : ¬ (k : Int) < (n3 : Int) := by omega
                  go_upto_region 34 with (fail)
                  obtain ⟨WP, hWP⟩ : ∃ W, WX = W := ⟨_, rfl⟩
                  rw [hWP]
                  have HXP := Lib.hid (show At WP gx 117 #[.string X, (.slice none 0 0), .string ⟨#[]⟩, .string ⟨#[]⟩] from hWP ▸ HXR.out)
                  have HMP := Lib.hid (show Mk g W0 g (.slice aT NT sT) NT ((List.range NT).map Sm.tok) (.slice a NL sz) NL pl (.slice aR k sR) k qr WP from hWP ▸ HMX.out)
                  have HNP := Lib.hid (show Nms WP (.slice none 0 0) (Sm.right s k) from hWP ▸ HNR.out)
                  clear hWP t4
                  have hmp := HMP.out
                  have r4 := hmp.at_.cell 4
                  have u0 := HXP.out.cell 0
                  have u1 := HXP.out.cell 1
                  have u2 := HXP.out.cell 2
                  have u3 := HXP.out.cell 3
                  simp only [List.getElem?_toArray, List.getElem?_cons_zero, List.getElem?_cons_succ] at r4 u0 u1 u2 u3
                  have hlgp := hmp.at_.lt
                  have hlxp := HXP.out.lt
                  have HOWR := Lib.hid hmp.rl
                  have HATP := Lib.hid hmp.at_
                  have hszp := hmp.size
                  have hc3 : k + 1 ≤ maxLen := by unfold maxLen; omega
                  have hc4 : (k + 1) * 72 ≤ 140737488355328 := by omega
                  clear hmp
                  go_wp2_with (at_builtin; refine wpList_append_own2 _ rfl _ _ 82 rfl g 117 iR _ 4 72 Tryz.underlying82 hiR hR0 hR1 hR2 rfl (by decide) _ _ _ rfl (HOWR.out.alloc _) ⟨WP.heap.size, 0, none⟩ 1 1 [.string X, (.slice none 0 0), .string ⟨#[]⟩, .string ⟨#[]⟩] rfl rfl (cells_new _ _ _) (by simp [Value.oneCell']) hc3 hc4 (by simp; omega) ?_)
                  intro v' w5 hown5 hg5 _
                  obtain ⟨a8, s8, rfl⟩ := own_form hown5
                  have hat5 := (HATP.out.alloc (.cells #[.string X, (.slice none 0 0), .string ⟨#[]⟩, .string ⟨#[]⟩] 117)).grown hg5 (fun e => own_apart HOWR.out HATP.out (by decide) e.symm)
                  have w4 := hat5.cell 4
                  have wf := hat5.frozen 4
                  simp only [List.getElem?_toArray, List.getElem?_cons_zero, List.getElem?_cons_succ] at w4
                  have HM5 := Lib.hid (Mk.putR (x := Sm.rule s k) (v := (.slice none 0 0)) (HMP.out.alloc (.cells #[.string X, (.slice none 0 0), .string ⟨#[]⟩, .string ⟨#[]⟩] 117)) (show w5.ownsRow g 117 4 (.slice a8 (k + 1) s8) (k + 1) (rulesV (qr ++ [(Sm.rule s k, (.slice none 0 0))])) by
                    have e : rulesV [(Sm.rule s k, (.slice none 0 0))] = [.string X, (.slice none 0 0), .string ⟨#[]⟩, .string ⟨#[]⟩] := by
                      show [Value.string (str (Sm.stuv (s.lefts.getD k 0 % Sm.nv s))), (.slice none 0 0), .string (str (Sm.prec s k)), .string (str [])] = _
                      rw [HX.out, HNV.out, HV.out, HXE.out, HPRE.out]; rfl
                    rw [rulesV_append, e]; exact hown5) hg5 (HNP.out.stay (Stay.below ((Below.refl _ _).alloc (Nat.le_refl _) _))))
                  clear hown5 hg5 hat5 r4 u0 u1 u2 u3
                  go_wp2_with fail
                  go_roundw
                  case rel => exact ⟨k + 1, a8, s8, _, by omega, by go_num, HM5.out, by rw [List.map_append, HQR.out, range_snoc]; rfl⟩
                  case measure => simp [intOf]; omega
            · obtain rfl : n1 = k := by omega
              have HQR0 := Lib.hid (show qr.map (·.1) = Sm.rules s 0 by rw [HQR.out, Sm.rules_zero]; unfold Sm.rules0; rw [HN1.out])
              have hql0 : qr.length = n1 := by have h := congrArg List.length HQR.out; simpa using h
              clear hmk hqr hatb
              go_wp2_with fail
              clear q2 hlb
              go_loopw [16] (fun i wr => ∃ (q : Nat) (aR : Option Addr) (nR sR : Nat) (qr : List (Rd.Rule × Value)), q ≤ NV ∧ i = .int .i64 (q : Int) ∧ Mk g W0 g (.slice aT NT sT) NT ((List.range NT).map Sm.tok) (.slice a NL sz) NL pl (.slice aR nR sR) nR qr wr ∧ qr.map (·.1) = Sm.rules s q ∧ qr.length = nR ∧ nR ≤ n1 + q) (fun i _ => NV - (intOf i).toNat)
              case atStart => exact ⟨0, aR, n1, sR, qr, by omega, rfl, HMK.out, HQR0.out, hql0, by omega⟩
              case round =>
                clear HMK HQR HQR0 hql0 HATBB
                obtain ⟨q, aR, nR, sR, qr, hq, rfl, hmk, hqr, hlen, hnr⟩ := hrel
                obtain ⟨WV, hWV⟩ : ∃ W, wr = W := ⟨_, rfl⟩
                rw [hWV] at hmk ⊢
                clear hWV wr
                have HMK := Lib.hid hmk
                by_cases hlt : q < NV
                · have hcut := cut_stuv q (by omega)
                  have HSQ := Lib.hid (Sm.rules_succ (s := s) q)
                  obtain ⟨RL, hRL⟩ : ∃ RL, Sm.rules s q = RL := ⟨_, rfl⟩
                  rw [hRL] at hqr HSQ
                  have HQR := Lib.hid hqr
                  have HEQ := Lib.hid (fun (y : Rd.Name) => str_same y (Sm.stuv q))
                  obtain ⟨X, hX⟩ : ∃ X, str (Sm.stuv q) = X := ⟨_, rfl⟩
                  rw [hX] at hcut HEQ
                  have HXE := Lib.hid hX
                  have hrl : RL.length = nR := by rw [← hqr, List.length_map]; exact hlen
                  have HRL := Lib.hid hrl
                  have HLEN := Lib.hid hlen
                  have r4 := hmk.at_.cell 4
                  simp only [List.getElem?_toArray, List.getElem?_cons_zero, List.getElem?_cons_succ] at r4
                  have hlg := hmk.at_.lt
                  have hqi : (q : Int) < (NV : Int) := by omega
                  have hq0 : (0 : Int) ≤ (q : Int) := by omega
                  clear hmk hqr hX hRL hrl hlen
                  go_upto_region 39 with (fail)
                  try rw [hcut]
                  clear hcut
                  go_wp2_with fail
                  clear r4 hlg
                  go_loopw [18, 19] (fun f i wr => ∃ (j d : Nat), j ≤ nR ∧ i = .int .i64 (j : Int) ∧ f = .bool (Sm.hasL (Sm.stuv q) (RL.take j)) ∧ wr = WV.drewN d) (fun _ i _ => nR - (intOf i).toNat)
                  case atStart => exact ⟨0, 0, by omega, rfl, by simp [Sm.hasL], rfl⟩
                  case round =>
                    obtain ⟨j, d, hj, rfl, rfl, rfl⟩ := hrel
                    have hmd := HMK.out.drewN d
                    have r4 := hmd.at_.cell 4
                    simp only [List.getElem?_toArray, List.getElem?_cons_zero, List.getElem?_cons_succ] at r4
                    have hlg := hmd.at_.lt
                    by_cases hjl : j < nR
                    · obtain ⟨p, hp⟩ := some_get (l := qr) (i := j) (by rw [HLEN.out]; exact hjl)
                      have hrj : RL[j]? = some p.1 := by rw [← HQR.out, List.getElem?_map, hp]; rfl
                      have htk : Sm.hasL (Sm.stuv q) (RL.take (j + 1)) = (Sm.hasL (Sm.stuv q) (RL.take j) || (p.1.left == Sm.stuv q)) := by
                        unfold Sm.hasL
                        rw [List.take_add_one, hrj, List.any_append]; simp
                      have HTK := Lib.hid htk
                      obtain ⟨rb, ro, hA, hrb, hrc⟩ := (Lie.own hmd.rl).cell (fun e => by
                        have h : (rulesV qr)[j * 4 + 0]? = some (.string (str p.1.left)) := flat_get ruleCells 4 (fun _ => rfl) qr j 0 p _ hp (by omega) rfl
                        rw [e] at h; simp at h)
                      have y0 : (WV.drewN d).cell? ⟨rb, ro + j * 4, none⟩ = some (.string (str p.1.left)) := hrc _ _ (flat_get ruleCells 4 (fun _ => rfl) qr j 0 p _ hp (by omega) rfl)
                      subst hA
                      have heq := HEQ.out p.1.left
                      have hji : (j : Int) < (nR : Int) := by omega
                      have hj0 : (0 : Int) ≤ (j : Int) := by omega
                      generalize hfb : Sm.hasL (Sm.stuv q) (RL.take j) = fb at HTK ⊢
                      generalize hlb : (p.1.left == Sm.stuv q) = lb at heq HTK
                      generalize str p.1.left = Y at y0 heq
                      clear hmd hp hrj htk hrc hfb hlb
                      cases fb with
                      | true =>
                        go_wp2_with fail
                        try go_quiet (fail)
                        try go_wp2_with fail
                        go_roundw
                        case rel => exact ⟨j + 1, _, by omega, by go_num, by rw [HTK.out]; rfl, rfl⟩
                        case measure => simp [intOf]; omega
                      | false =>
                        cases lb with
                        | true =>
                          go_wp2_with fail
                          try go_quiet (fail)
                          try go_wp2_with fail
                          go_roundw
                          case rel => exact ⟨j + 1, _, by omega, by go_num, by rw [HTK.out]; rfl, rfl⟩
                          case measure => simp [intOf]; omega
                        | false =>
                          go_wp2_with fail
                          try go_quiet (fail)
                          try go_wp2_with fail
                          go_roundw
                          case rel => exact ⟨j + 1, _, by omega, by go_num, by rw [HTK.out]; rfl, rfl⟩
                          case measure => simp [intOf]; omega
                    · obtain rfl : nR = j := by omega
                      rw [show RL.take nR = RL by rw [← HRL.out, List.take_length]]
                      cases hfb : Sm.hasL (Sm.stuv q) RL with
                      | true =>
                        have HSQ2 := Lib.hid (show Sm.rules s (q + 1) = RL by rw [HSQ.out]; unfold Sm.addR; rw [if_pos hfb])
                        have HMD := Lib.hid hmd
                        clear hmd hfb
                        go_wp2_with fail
                        go_roundw
                        case rel => exact ⟨q + 1, aR, nR, sR, qr, by omega, by go_num, HMD.out, by rw [HQR.out, HSQ2.out], HLEN.out, by omega⟩
                        case measure => simp [intOf]; omega
                      | false =>
                        have HSQ2 := Lib.hid (show Sm.rules s (q + 1) = RL ++ [⟨Sm.stuv q, [], [], []⟩] by rw [HSQ.out]; unfold Sm.addR; rw [if_neg (by rw [hfb]; decide)])
                        obtain ⟨WP, hWP⟩ : ∃ W, WV.drewN d = W := ⟨_, rfl⟩
                        rw [hWP] at hmd r4 hlg ⊢
                        have HMP := Lib.hid hmd
                        have HOWR := Lib.hid hmd.rl
                        have HATP := Lib.hid hmd.at_
                        have hszp := hmd.size
                        have hc3 : nR + 1 ≤ maxLen := by unfold maxLen; omega
                        have hc4 : (nR + 1) * 72 ≤ 140737488355328 := by omega
                        clear hmd hfb hWP
                        go_wp2_with (at_builtin; refine wpList_append_own2 _ rfl _ _ 82 rfl g 117 iR _ 4 72 Tryz.underlying82 hiR hR0 hR1 hR2 rfl (by decide) _ _ _ rfl (HOWR.out.alloc _) ⟨WP.heap.size, 0, none⟩ 1 1 [.string X, .slice none 0 0, .string ⟨#[]⟩, .string ⟨#[]⟩] rfl rfl (cells_new _ _ _) (by simp [Value.oneCell']) hc3 hc4 (by simp; omega) ?_)
                        intro v' w5 hown5 hg5 _
                        obtain ⟨a8, s8, rfl⟩ := own_form hown5
                        have hat5 := (HATP.out.alloc (.cells #[.string X, .slice none 0 0, .string ⟨#[]⟩, .string ⟨#[]⟩] 117)).grown hg5 (fun e => own_apart HOWR.out HATP.out (by decide) e.symm)
                        have w4 := hat5.cell 4
                        have wf := hat5.frozen 4
                        simp only [List.getElem?_toArray, List.getElem?_cons_zero, List.getElem?_cons_succ] at w4
                        have HM5 := Lib.hid (Mk.putR (x := ⟨Sm.stuv q, [], [], []⟩) (v := .slice none 0 0) (HMP.out.alloc (.cells #[.string X, .slice none 0 0, .string ⟨#[]⟩, .string ⟨#[]⟩] 117)) (show w5.ownsRow g 117 4 (.slice a8 (nR + 1) s8) (nR + 1) (rulesV (qr ++ [(⟨Sm.stuv q, [], [], []⟩, .slice none 0 0)])) by
                          have e : rulesV [((⟨Sm.stuv q, [], [], []⟩ : Rd.Rule), Value.slice none 0 0)] = [.string X, .slice none 0 0, .string ⟨#[]⟩, .string ⟨#[]⟩] := by
                            rw [← HXE.out]; rfl
                          rw [rulesV_append, e]; exact hown5) hg5 (Nms.nil _))
                        clear hown5 hg5 hat5 r4
                        go_wp2_with fail
                        go_roundw
                        case rel => exact ⟨q + 1, a8, nR + 1, s8, _, by omega, by go_num, HM5.out, by rw [List.map_append, HQR.out, HSQ2.out]; rfl, by rw [List.length_append, HLEN.out]; rfl, by omega⟩
                        case measure => simp [intOf]; omega
                · obtain rfl : NV = q := by omega
                  have HRUL := Lib.hid (show qr.map (·.1) = Sm.rules s (Sm.nv s) by rw [hqr, HNV.out])
                  have HLEN := Lib.hid (show (Sm.rules s (Sm.nv s)).length = nR by rw [← HRUL.out, List.length_map]; exact hlen)
                  have HLVS := Lib.hid (show pl.map (·.1) = Sm.levs s (Sm.nt s) by rw [HPL.out, HNT.out])
                  have HNLL := Lib.hid (show (Sm.levs s (Sm.nt s)).length = NL by unfold Sm.levs; rw [List.length_map, List.length_range, HNL.out])
                  have hatr := HATR.out.below hmk.bel (by have := HG.out; omega)
                  have HATRW := Lib.hid hatr
                  have x0 := hatr.cell 0
                  have x1 := hatr.cell 1
                  have x2 := hatr.cell 2
                  have x3 := hatr.cell 3
                  have x4 := hatr.cell 4
                  have xf := hatr.frozen
                  have xl := hatr.lt
                  have p0 := hmk.at_.cell 0
                  have p1 := hmk.at_.cell 1
                  have p2 := hmk.at_.cell 2
                  have p3 := hmk.at_.cell 3
                  have p4 := hmk.at_.cell 4
                  have pl0 := hmk.at_.lt
                  simp only [List.getElem?_toArray, List.getElem?_cons_zero, List.getElem?_cons_succ] at x0 x1 x2 x3 x4 p0 p1 p2 p3 p4
                  clear hmk hqr hatr
                  go_wp2_with fail
                  refine bodyPost_ret (results_cell_row rfl _ _ gr _ _ (0, 0) _ rfl (HATRW.out.five_ _ _ _ _ _) Tryz.underlying84 rfl Tryz.sizeGrammar) rfl ⟨⟨_, rfl, ?_⟩, ?_⟩
                  · have hst : ∀ t, t ≠ 84 → Stay t WV (((((WV.setCell ⟨gr, 0, none⟩ (.slice aT NT sT)).setCell ⟨gr, 1, none⟩ (.slice none 0 0)).setCell ⟨gr, 2, none⟩ (.slice a NL sz)).setCell ⟨gr, 3, none⟩ (.string ⟨#[83]⟩)).setCell ⟨gr, 4, none⟩ (.slice aR nR sR)) := fun t ht => Stay.far HATRW.out ht (grown_five WV gr _ _ _ _ _)
                    refine ⟨aT, sT, none, 0, a, sz, aR, sR, pl, qr, ?_, ?_, Cl.nil _ _ _, ?_, HLVS.out, fun p hp => ⟨(HMK.out.ln p hp).1, ((HMK.out.ln p hp).2.stay (hst _ (by decide))).nmC⟩, ?_, HRUL.out, fun p hp => ((HMK.out.rn p hp).stay (hst _ (by decide))).nmC⟩
                    · show _ = Value.agg #[.slice aT ((List.range (Sm.nt s)).map Sm.tok).length sT, .slice none 0 0, .slice a (Sm.levs s (Sm.nt s)).length sz, .string (str (Sm.stuv 0)), .slice aR (Sm.rules s (Sm.nv s)).length sR]
                      rw [HLEN.out, HNLL.out, List.length_map, List.length_range, HNT.out]; rfl
                    · show Cl _ _ _ (toksV ((List.range (Sm.nt s)).map Sm.tok))
                      rw [HNT.out]
                      exact (Lie.own (own_stay HMK.out.tk (hst _ (by decide)))).cl
                    · exact (Lie.own (own_stay HMK.out.lv (hst _ (by decide)))).cl
                    · exact (Lie.own (own_stay HMK.out.rl (hst _ (by decide)))).cl
                  · exact below_grown (HB0.out.trans (HMK.out.bel.mono (by have := HG.out; omega))) (grown_five _ _ _ _ _ _ _) (Nat.le_trans HB0.out.size HMK.out.bel.size) (by have := HG.out; omega)
end Go.Proofs.YtdhhkancbgealaaGreat
