/-
  The walks of names' levels, numbers.
-/
import Derived.Test.YtpgmapjjjpcmfaaGreatDoorNmD
import Derived.Test.YtpgmapjjjpcmfaaGreatDoorNmP
namespace Go.Proofs.YtpgmapjjjpcmfaaGreatDoor
open Go.RowKit
open Lx
set_option linter.unusedVariables false
set_option linter.unusedSimpArgs false
set_option maxRecDepth 100000

theorem infoInts : (Tryz.prog.info? 3).map (fun i => (i.zero, i.size, i.bytes)) = some (some (.int .i64 0), 1, 8) := by kernel_rfl
theorem vals_snoc (l : List Int) (x : Int) : vals (l ++ [x]) = vals l ++ [.int .i64 x] := by simp [vals]
theorem vals_take {l : List Int} {k : Nat} {x : Int} (h : l[k]? = some x) : vals (l.take (k + 1)) = vals (l.take k) ++ [.int .i64 x] := by
  rw [List.take_add_one, h]; simp [vals]
/-- The levels that lie in memory, as an argument has them, each in its way. -/
structure LevsA (w : World) (B : Nat) (A : Option Addr) (L : List Rd.Lev) : Prop where
  ex : ∃ pl, Cl w B A (levsC pl) ∧ pl.map (·.1) = L ∧ (∀ p ∈ pl, NmC w B p.2.1 p.1.names) ∧ ∀ p ∈ pl, p.2.2 = (p.1.assoc : Int)
theorem LevsA.below {w w' : World} {B : Nat} {A : Option Addr} {L : List Rd.Lev} (h : LevsA w B A L) (hb : Below B w w') : LevsA w' B A L := by
  obtain ⟨pl, h1, h2, h3, h4⟩ := h.ex
  exact ⟨pl, h1.below hb, h2, fun p hp => (h3 p hp).below hb, h4⟩
theorem LevsA.get {w : World} {B : Nat} {A : Option Addr} {L : List Rd.Lev} (h : LevsA w B A L) {k : Nat} {v : Rd.Lev} (hk : L[k]? = some v) :
    ∃ b o A' c', A = some ⟨b, o, none⟩ ∧ b < B ∧ w.cell? ⟨b, o + k * 2, none⟩ = some (.int .i64 (v.assoc : Int)) ∧ w.cell? ⟨b, o + k * 2 + 1, none⟩ = some (.slice A' v.names.length c') ∧ Cl w B A' (namesV v.names) := by
  obtain ⟨pl, h1, h2, h3, h5⟩ := h.ex
  have hk2 := hk
  rw [← h2, List.getElem?_map, Option.map_eq_some_iff] at hk2
  obtain ⟨p, hp, rfl⟩ := hk2
  obtain ⟨A', c', e, hc⟩ := h3 p (List.mem_of_getElem? hp)
  have hv := fun j u (hj : j < 2) (hu : (levC p)[j]? = some u) => flat_get levC 2 (fun _ => rfl) pl k j p u hp hj hu
  obtain ⟨b, o, rfl, hb, hcell⟩ := h1.ex (fun e => by
    have h : (levsC pl)[k * 2 + 0]? = some (.int .i64 p.2.2) := hv 0 _ (by omega) rfl
    rw [e] at h; simp at h)
  refine ⟨b, o, A', c', rfl, hb, ?_, ?_, hc⟩
  · rw [← h5 p (List.mem_of_getElem? hp)]
    exact hcell _ _ (hv 0 _ (by omega) rfl)
  · rw [Nat.add_assoc, ← e]
    exact hcell _ _ (hv 1 _ (by omega) rfl)
/-- The levels of a grammar that can be read. -/
theorem GramC.levsA {w : World} {B : Nat} {v : Value} {G : Rd.G} (h : GramC w B v G) (ha : ∀ x ∈ G.levels, 1 ≤ x.assoc) : ∃ A1 n1 c1 A2 n2 c2 A3 c3 st A4 n4 c4, v = .agg #[.slice A1 n1 c1, .slice A2 n2 c2, .slice A3 G.levels.length c3, .string st, .slice A4 n4 c4] ∧ LevsA w B A3 G.levels := by
  obtain ⟨A1, c1, A2, c2, A3, c3, A4, c4, pl, ql, h0, h1, h2, h3, h4, h5, h6, h7, h8⟩ := h.ex
  refine ⟨_, _, _, _, _, _, A3, c3, _, _, _, _, h0, pl, h3, h4, fun p hp => (h5 p hp).2, fun p hp => ?_⟩
  have h9 := ha p.1 (by rw [← h4]; exact List.mem_map.2 ⟨p, hp, rfl⟩)
  rw [(h5 p hp).1] at h9
  rw [(h5 p hp).1]
  exact encA_of h9
theorem take_one {α β : Type} (f : α → β) {l : List α} {k : Nat} {x : α} (h : l[k]? = some x) : (l.map f)[k]? = some (f x) := by simp [h]

set_option maxHeartbeats 8000000 in
theorem levels_any (v pv : Value) (G : Rd.G) (T V : List Rd.Name) (B : Nat) (w : World) (h : GramC w B v G) (hp : SymC w B pv T V) (hB : B ≤ w.heap.size) (ha : ∀ x ∈ G.levels, 1 ≤ x.assoc) (hn1 : T.length ≤ 1001) (hn3 : G.levels.length ≤ 1000) (hlv : ∀ v ∈ G.levels, v.names.length ≤ 140737488355328) :
    Calls Tryz.prog 51 #[v, pv] w fun e w' => (∃ A c A' c', e = .returned (.tuple #[.slice A T.length c, .slice A' (G.levels.length + 1) c']) ∧ Lie w' 3 A (vals (T.map (Nm.level G))) ∧ Lie w' 3 A' (vals (0 :: G.levels.map (fun v => (v.assoc : Int))))) ∧ Below w.heap.size w w' := by
  have HLV := Lib.hid (show ∀ (n : Rd.Name) (w' : World), Below w.heap.size w w' → Calls Tryz.prog 80 #[v, .string (str n)] w' fun e w'' => e = .returned (.int .i64 (Nm.level G n)) ∧ Below w'.heap.size w' w'' from
    fun n w' hw' => nlevel_any v G n B w' (h.below (hw'.mono hB)) (Nat.le_trans hB hw'.size) (by omega) hlv)
  obtain ⟨A1, n1, c1, A2, n2, c2, A3, c3, ST, A4, n4, c4, rfl, hla⟩ := h.levsA ha
  obtain ⟨B1, d1, B2, d2, B3, m3, d3, B4, m4, d4, B5, m5, d5, B6, m6, d6, rfl, j1, j2⟩ := hp.ex
  obtain ⟨i0, hi, hz0, hz1, hz2⟩ := info_parts infoInts
  obtain ⟨n3, hn3'⟩ : ∃ n, G.levels.length = n := ⟨_, rfl⟩
  obtain ⟨t1, ht1⟩ : ∃ n, T.length = n := ⟨_, rfl⟩
  rw [hn3'] at hn3 HLV ⊢
  rw [ht1] at hn1 ⊢
  have HN3 := Lib.hid hn3'
  have HT1 := Lib.hid ht1
  have HLA := Lib.hid hla
  have HJ1 := Lib.hid j1
  generalize V.length = t2
  have HTK := Lib.hid (show ∀ k x, T[k]? = some x → vals ((T.map (Nm.level G)).take (k + 1)) = vals ((T.map (Nm.level G)).take k) ++ [.int .i64 (Nm.level G x)] from fun k x hx => vals_take (take_one _ hx))
  have HTA := Lib.hid (show (T.map (Nm.level G)).take t1 = T.map (Nm.level G) by rw [← ht1, ← List.length_map (f := Nm.level G), List.take_length])
  have HAK := Lib.hid (show ∀ k x, G.levels[k]? = some x → vals ((0 :: G.levels.map (fun v => (v.assoc : Int))).take (k + 1 + 1)) = vals ((0 :: G.levels.map (fun v => (v.assoc : Int))).take (k + 1)) ++ [.int .i64 (x.assoc : Int)] from fun k x hx => vals_take (by rw [List.getElem?_cons_succ]; exact take_one _ hx))
  have HAA := Lib.hid (show (0 :: G.levels.map (fun v => (v.assoc : Int))).take (n3 + 1) = 0 :: G.levels.map (fun v => (v.assoc : Int)) by
    rw [List.take_succ_cons, ← hn3', ← List.length_map (f := fun v : Rd.Lev => (v.assoc : Int)), List.take_length])
  have HA0 := Lib.hid (show vals ((0 :: G.levels.map (fun v => (v.assoc : Int))).take 1) = [.int .i64 0] from rfl)
  generalize T.map (Nm.level G) = LT at HTK HTA ⊢
  generalize 0 :: G.levels.map (fun v => (v.assoc : Int)) = LA at HAK HAA HA0 ⊢
  have hgg := At.new w 27 #[.slice A1 n1 c1, .slice A2 n2 c2, .slice A3 n3 c3, .string ST, .slice A4 n4 c4]
  have b1 := (Below.refl w.heap.size w).alloc (Nat.le_refl _) (.cells #[.slice A1 n1 c1, .slice A2 n2 c2, .slice A3 n3 c3, .string ST, .slice A4 n4 c4] 27)
  obtain ⟨w1, hw1⟩ : ∃ w1, w.alloc (.cells #[.slice A1 n1 c1, .slice A2 n2 c2, .slice A3 n3 c3, .string ST, .slice A4 n4 c4] 27) = w1 := ⟨_, rfl⟩
  have hs1 : w1.heap.size = w.heap.size + 1 := by rw [← hw1]; simp
  rw [hw1] at hgg b1
  have hgg2 := hgg.alloc (.cells #[.slice B1 t1 d1, .slice B2 t2 d2, .slice B3 m3 d3, .slice B4 m4 d4, .slice B5 m5 d5, .slice B6 m6 d6] 45)
  have b2 := b1.alloc b1.size (.cells #[.slice B1 t1 d1, .slice B2 t2 d2, .slice B3 m3 d3, .slice B4 m4 d4, .slice B5 m5 d5, .slice B6 m6 d6] 45)
  obtain ⟨W0, hW0⟩ : ∃ W0, w1.alloc (.cells #[.slice B1 t1 d1, .slice B2 t2 d2, .slice B3 m3 d3, .slice B4 m4 d4, .slice B5 m5 d5, .slice B6 m6 d6] 45) = W0 := ⟨_, rfl⟩
  rw [hW0] at hgg2 b2
  have HWW := Lib.hid (show (w.alloc (.cells #[.slice A1 n1 c1, .slice A2 n2 c2, .slice A3 n3 c3, .string ST, .slice A4 n4 c4] 27)).alloc (.cells #[.slice B1 t1 d1, .slice B2 t2 d2, .slice B3 m3 d3, .slice B4 m4 d4, .slice B5 m5 d5, .slice B6 m6 d6] 45) = W0 by rw [hw1, hW0])
  obtain ⟨g0, hg0⟩ : ∃ g, w.heap.size = g := ⟨_, rfl⟩
  obtain ⟨g1, hg1⟩ : ∃ g, g0 + 1 = g := ⟨_, rfl⟩
  rw [hg0] at hgg2
  have HGG := Lib.hid hgg2
  have HB0 := Lib.hid b2
  have HG := Lib.hid (show w.heap.size = g0 ∧ g0 + 1 = g1 from ⟨hg0, hg1⟩)
  clear h hp hla j1 j2 hn3' ht1 hgg hgg2 b1 b2 hw1 hW0 hs1 hg0 hg1 hlv ha
  go_enter Tryz.func51, Tryz.ntmps51
  go_wp2_with fail
  rw [HWW.out]
  obtain ⟨hg0, hg1⟩ := HG.out
  rw [hg0, hg1]
  clear hg0 hg1
  go_loopw [4, 13] (fun v i wr => ∃ (k : Nat) (a : Option Addr) (s : Nat), k ≤ t1 ∧ i = .int .i64 (k : Int) ∧ v = .slice a k s ∧ wr.ownsRow W0.heap.size 3 1 (.slice a k s) k (vals (LT.take k)) ∧ Below W0.heap.size W0 wr) (fun _ i _ => t1 - (intOf i).toNat)
  case atStart => exact ⟨0, none, 0, by omega, rfl, rfl, World.ownsRow_nil _ _ _ _, Below.refl _ _⟩
  case round =>
    obtain ⟨k, a, s, hk, rfl, rfl, hown, hb⟩ := hrel
    have HO := Lib.hid hown
    have HBR := Lib.hid hb
    have HBW := Lib.hid (HB0.out.trans (hb.mono HB0.out.size))
    have hgat := HGG.out.below hb HGG.out.lt
    clear hown hb
    by_cases hlt : k < t1
    · obtain ⟨x, ht⟩ := some_get (l := T) (i := k) (by rw [HT1.out]; exact hlt)
      obtain ⟨b, o, hA, hbl, y0⟩ := cl_get (HJ1.out.below (HBW.out.mono hB)) ht
      subst hA
      have HK1 := Lib.hid (HTK.out k x ht)
      have HLN := Lib.hid (HLV.out x)
      generalize str x = X0 at y0 HLN
      generalize Nm.level G x = LX at HK1 HLN
      have e0 := hgat.cell 0
      have e1 := hgat.cell 1
      have e2 := hgat.cell 2
      have e3 := hgat.cell 3
      have e4 := hgat.cell 4
      simp only [List.getElem?_toArray, List.getElem?_cons_zero, List.getElem?_cons_succ] at e0 e1 e2 e3 e4
      have hki : (k : Int) < (t1 : Int) := by omega
      have hk0 : (0 : Int) ≤ (k : Int) := by omega
      have hc3 : k + 1 ≤ maxLen := by unfold maxLen; omega
      have hc4 : (k + 1) * 8 ≤ 140737488355328 := by omega
      clear ht hgat
      go_wp2_with fail
      refine (HLN.out _ HBW.out).mono ?_
      rintro e w5 ⟨rfl, hb5⟩
      have HO5 := Lib.hid (own_stay HO.out (Stay.below hb5))
      have HB5 := Lib.hid (HBR.out.trans (hb5.mono HBR.out.size))
      have hsz5 := HB5.out.size
      clear hb5 e0 e1 e2 e3 e4
      go_wp2_with (at_builtin; refine wpList_append_own2 _ rfl _ _ 43 rfl W0.heap.size 3 i0 _ 1 8 Tryz.underlying43 hi hz0 hz1 hz2 rfl (by decide) _ _ _ rfl (HO5.out.alloc _) ⟨w5.heap.size, 0, none⟩ 1 1 [.int .i64 LX] rfl rfl (cells_new _ _ _) (by simp [Value.oneCell']) hc3 hc4 (by simp; omega) ?_)
      intro v' w6 hown' hg _
      obtain ⟨a8, s8, rfl⟩ := own_form hown'
      have HN6 := Lib.hid (show w6.ownsRow W0.heap.size 3 1 (.slice a8 (k + 1) s8) (k + 1) (vals (LT.take (k + 1))) by rw [HK1.out]; exact hown')
      have HB6 := Lib.hid ((HB5.out.alloc hsz5 (.cells #[.int .i64 LX] 3)).grown hg (by simp; omega) (fun j hj => (own_lt HO5.out j hj).1))
      clear hown' hg
      go_wp2_with fail
      go_roundw
      case rel => exact ⟨k + 1, a8, s8, by omega, by go_num, rfl, HN6.out, HB6.out⟩
      case measure => simp [intOf]; omega
    · obtain rfl : t1 = k := by omega
      rw [HTA.out] at HO
      have x2 := hgat.cell 2
      simp only [List.getElem?_toArray, List.getElem?_cons_zero, List.getElem?_cons_succ] at x2
      have HGAT := Lib.hid hgat
      have hsz1 : W0.heap.size ≤ wr.heap.size := HBR.out.size
      clear hgat hk hlt
      go_wp2_with (at_builtin; refine wpList_append_own2 _ rfl _ _ 43 rfl wr.heap.size 3 i0 _ 1 8 Tryz.underlying43 hi hz0 hz1 hz2 rfl (by decide) _ 0 [] rfl (World.ownsRow_nil _ _ _ _) ⟨wr.heap.size, 0, none⟩ 1 1 [.int .i64 0] rfl rfl (cells_new _ _ _) (by simp [Value.oneCell']) (by unfold maxLen; omega) (by omega) (by simp) ?_)
      intro v' w6 hown' hg _
      obtain ⟨a8, s8, rfl⟩ := own_form hown'
      rw [← HA0.out] at hown'
      have hb6 : Below wr.heap.size wr w6 := ((Below.refl wr.heap.size wr).alloc (Nat.le_refl _) (.cells #[.int .i64 0] 3)).grown hg (by simp) (fun j hj => by simp [Value.ownBlock] at hj)
      have hgat6 := HGAT.out.below hb6 HGAT.out.lt
      have y2 := hgat6.cell 2
      simp only [List.getElem?_toArray, List.getElem?_cons_zero, List.getElem?_cons_succ] at y2
      have HO6 := Lib.hid hown'
      have HB6 := Lib.hid hb6
      have hlg := hgat6.lt
      clear hown' hg hb6 hgat6 x2
      go_wp2_with fail
      obtain ⟨W1, hW1⟩ : ∃ W1, wr = W1 := ⟨_, rfl⟩
      rw [hW1] at HO HBR HBW HO6 HB6 hsz1
      clear y2 hlg HGAT hW1
      go_loopw [5, 30] (fun v i w9 => ∃ (k : Nat) (a' : Option Addr) (s' : Nat), k ≤ n3 ∧ i = .int .i64 (k : Int) ∧ v = .slice a' (k + 1) s' ∧ w9.ownsRow W1.heap.size 3 1 (.slice a' (k + 1) s') (k + 1) (vals (LA.take (k + 1))) ∧ Below W1.heap.size W1 w9) (fun _ i _ => n3 - (intOf i).toNat)
      case atStart => exact ⟨0, a8, s8, by omega, rfl, rfl, HO6.out, HB6.out⟩
      case round =>
        obtain ⟨k, a', s', hk, rfl, rfl, hown, hb⟩ := hrel
        have HO7 := Lib.hid hown
        have HBR7 := Lib.hid hb
        have HBW7 := Lib.hid (HBW.out.trans (hb.mono HBW.out.size))
        clear hown hb
        by_cases hlt : k < n3
        · obtain ⟨x, ht⟩ := some_get (l := G.levels) (i := k) (by rw [HN3.out]; exact hlt)
          obtain ⟨b, o, A', c', hA, hbl, y0, y1, hcl⟩ := (HLA.out.below (HBW7.out.mono hB)).get ht
          subst hA
          have HK1 := Lib.hid (HAK.out k x ht)
          generalize (x.assoc : Int) = XA at HK1 y0
          generalize x.names.length = XN at y1
          have hki : (k : Int) < (n3 : Int) := by omega
          have hk0 : (0 : Int) ≤ (k : Int) := by omega
          have hc3 : k + 1 + 1 ≤ maxLen := by unfold maxLen; omega
          have hc4 : (k + 1 + 1) * 8 ≤ 140737488355328 := by omega
          have hsz7 := HBR7.out.size
          clear ht hcl
          go_wp2_with (at_builtin; refine wpList_append_own2 _ rfl _ _ 43 rfl W1.heap.size 3 i0 _ 1 8 Tryz.underlying43 hi hz0 hz1 hz2 rfl (by decide) _ _ _ rfl ((HO7.out.alloc (.cells #[.int .i64 XA, .slice A' XN c'] 50)).alloc _) _ 1 1 [.int .i64 XA] rfl rfl (cells_new2 _ _ _ _) (by simp [Value.oneCell']) hc3 hc4 (by simp; omega) ?_)
          intro v' w8 hown' hg _
          obtain ⟨a9, s9, rfl⟩ := own_form hown'
          have HN8 := Lib.hid (show w8.ownsRow W1.heap.size 3 1 (.slice a9 (k + 1 + 1) s9) (k + 1 + 1) (vals (LA.take (k + 1 + 1))) by rw [HK1.out]; exact hown')
          have HB8 := Lib.hid (((HBR7.out.alloc hsz7 (.cells #[.int .i64 XA, .slice A' XN c'] 50)).alloc (by simp; omega) (.cells #[.int .i64 XA] 3)).grown hg (by simp; omega) (fun j hj => (own_lt HO7.out j hj).1))
          clear hown' hg
          go_wp2_with fail
          go_roundw
          case rel => exact ⟨k + 1, a9, s9, by omega, by go_num, rfl, HN8.out, HB8.out⟩
          case measure => simp [intOf]; omega
        · obtain rfl : n3 = k := by omega
          rw [HAA.out] at HO7
          have hrow1 := (Lie.own (HO.out)).below HBR7.out
          have HR1 := Lib.hid hrow1
          have HR2 := Lib.hid (Lie.own HO7.out)
          clear hrow1
          go_wp2_with fail
          go_ret2
          exact ⟨⟨a, s, a', s', rfl, HR1.out, HR2.out⟩, HBW7.out⟩

set_option maxHeartbeats 8000000 in
theorem numbers_any (pv : Value) (T V l : List Rd.Name) (A : Option Addr) (cap B : Nat) (w : World) (hp : SymC w B pv T V) (hl : Cl w B A (namesV l)) (hB : B ≤ w.heap.size) (hT : T.length ≤ 1000000) (hV : V.length ≤ 1000000) (hn : l.length ≤ 1000) :
    Calls Tryz.prog 81 #[pv, .slice A l.length cap] w fun e w' => (∃ A' c', e = .returned (.slice A' l.length c') ∧ Lie w' 3 A' (vals (l.map (Nm.sym T V)))) ∧ Below w.heap.size w w' := by
  have HSY := Lib.hid (show ∀ (n : Rd.Name) (w' : World), Below w.heap.size w w' → Calls Tryz.prog 46 #[pv, .string (str n)] w' fun e w'' => e = .returned (.int .i64 (Nm.sym T V n)) ∧ Below w'.heap.size w' w'' from
    fun n w' hw' => sym_any pv _ _ n B w' (hp.below (hw'.mono hB)) (Nat.le_trans hB hw'.size) hT hV)
  obtain ⟨B1, d1, B2, d2, B3, m3, d3, B4, m4, d4, B5, m5, d5, B6, m6, d6, rfl, j1, j2⟩ := hp.ex
  obtain ⟨i0, hi, hz0, hz1, hz2⟩ := info_parts infoInts
  obtain ⟨n, hnn⟩ : ∃ n, l.length = n := ⟨_, rfl⟩
  rw [hnn] at hn ⊢
  have HN := Lib.hid hnn
  have HL := Lib.hid hl
  generalize T.length = t1 at HSY ⊢
  generalize V.length = t2 at HSY ⊢
  have HTK := Lib.hid (show ∀ k x, l[k]? = some x → vals ((l.map (Nm.sym T V)).take (k + 1)) = vals ((l.map (Nm.sym T V)).take k) ++ [.int .i64 (Nm.sym T V x)] from fun k x hx => vals_take (take_one _ hx))
  have HTA := Lib.hid (show (l.map (Nm.sym T V)).take n = l.map (Nm.sym T V) by rw [← hnn, ← List.length_map (f := Nm.sym T V), List.take_length])
  generalize l.map (Nm.sym T V) = LT at HTK HTA ⊢
  have hgp := At.new w 45 #[.slice B1 t1 d1, .slice B2 t2 d2, .slice B3 m3 d3, .slice B4 m4 d4, .slice B5 m5 d5, .slice B6 m6 d6]
  have b1 := (Below.refl w.heap.size w).alloc (Nat.le_refl _) (.cells #[.slice B1 t1 d1, .slice B2 t2 d2, .slice B3 m3 d3, .slice B4 m4 d4, .slice B5 m5 d5, .slice B6 m6 d6] 45)
  obtain ⟨W0, hW0⟩ : ∃ W0, w.alloc (.cells #[.slice B1 t1 d1, .slice B2 t2 d2, .slice B3 m3 d3, .slice B4 m4 d4, .slice B5 m5 d5, .slice B6 m6 d6] 45) = W0 := ⟨_, rfl⟩
  rw [hW0] at hgp b1
  have HWW := Lib.hid hW0
  obtain ⟨g0, hg0⟩ : ∃ g, w.heap.size = g := ⟨_, rfl⟩
  rw [hg0] at hgp
  have HGP := Lib.hid hgp
  have HB0 := Lib.hid b1
  have HG := Lib.hid hg0
  clear hp hl j1 j2 hnn hgp b1 hW0 hg0 hT hV
  go_enter Tryz.func81, Tryz.ntmps81
  go_wp2_with fail
  rw [HWW.out]
  rw [HG.out]
  go_loopw [5, 10] (fun v i wr => ∃ (k : Nat) (a : Option Addr) (s : Nat), k ≤ n ∧ i = .int .i64 (k : Int) ∧ v = .slice a k s ∧ wr.ownsRow W0.heap.size 3 1 (.slice a k s) k (vals (LT.take k)) ∧ Below W0.heap.size W0 wr) (fun _ i _ => n - (intOf i).toNat)
  case atStart => exact ⟨0, none, 0, by omega, rfl, rfl, World.ownsRow_nil _ _ _ _, Below.refl _ _⟩
  case round =>
    obtain ⟨k, a, s, hk, rfl, rfl, hown, hb⟩ := hrel
    have HO := Lib.hid hown
    have HBR := Lib.hid hb
    have HBW := Lib.hid (HB0.out.trans (hb.mono HB0.out.size))
    have hgat := HGP.out.below hb HGP.out.lt
    clear hown hb
    by_cases hlt : k < n
    · obtain ⟨x, ht⟩ := some_get (l := l) (i := k) (by rw [HN.out]; exact hlt)
      obtain ⟨b, o, hA, hbl, y0⟩ := cl_get (HL.out.below (HBW.out.mono hB)) ht
      subst hA
      have HK1 := Lib.hid (HTK.out k x ht)
      have HLN := Lib.hid (HSY.out x)
      generalize str x = X0 at y0 HLN
      generalize Nm.sym T V x = LX at HK1 HLN
      have e0 := hgat.cell 0
      have e1 := hgat.cell 1
      have e2 := hgat.cell 2
      have e3 := hgat.cell 3
      have e4 := hgat.cell 4
      have e5 := hgat.cell 5
      simp only [List.getElem?_toArray, List.getElem?_cons_zero, List.getElem?_cons_succ] at e0 e1 e2 e3 e4 e5
      have hki : (k : Int) < (n : Int) := by omega
      have hk0 : (0 : Int) ≤ (k : Int) := by omega
      have hc3 : k + 1 ≤ maxLen := by unfold maxLen; omega
      have hc4 : (k + 1) * 8 ≤ 140737488355328 := by omega
      clear ht hgat
      go_wp2_with fail
      refine (HLN.out _ HBW.out).mono ?_
      rintro e w5 ⟨rfl, hb5⟩
      have HO5 := Lib.hid (own_stay HO.out (Stay.below hb5))
      have HB5 := Lib.hid (HBR.out.trans (hb5.mono HBR.out.size))
      have hsz5 := HB5.out.size
      clear hb5 e0 e1 e2 e3 e4 e5
      go_wp2_with (at_builtin; refine wpList_append_own2 _ rfl _ _ 43 rfl W0.heap.size 3 i0 _ 1 8 Tryz.underlying43 hi hz0 hz1 hz2 rfl (by decide) _ _ _ rfl (HO5.out.alloc _) ⟨w5.heap.size, 0, none⟩ 1 1 [.int .i64 LX] rfl rfl (cells_new _ _ _) (by simp [Value.oneCell']) hc3 hc4 (by simp; omega) ?_)
      intro v' w6 hown' hg _
      obtain ⟨a8, s8, rfl⟩ := own_form hown'
      have HN6 := Lib.hid (show w6.ownsRow W0.heap.size 3 1 (.slice a8 (k + 1) s8) (k + 1) (vals (LT.take (k + 1))) by rw [HK1.out]; exact hown')
      have HB6 := Lib.hid ((HB5.out.alloc hsz5 (.cells #[.int .i64 LX] 3)).grown hg (by simp; omega) (fun j hj => (own_lt HO5.out j hj).1))
      clear hown' hg
      go_wp2_with fail
      go_roundw
      case rel => exact ⟨k + 1, a8, s8, by omega, by go_num, rfl, HN6.out, HB6.out⟩
      case measure => simp [intOf]; omega
    · obtain rfl : n = k := by omega
      rw [HTA.out] at HO
      have HR1 := Lib.hid (Lie.own HO.out)
      clear hgat
      go_wp2_with fail
      go_ret
      exact ⟨⟨a, s, rfl, HR1.out⟩, HBW.out⟩

end Go.Proofs.YtpgmapjjjpcmfaaGreatDoor
