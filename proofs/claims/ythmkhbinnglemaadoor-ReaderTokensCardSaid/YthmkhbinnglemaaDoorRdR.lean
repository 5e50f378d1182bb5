/-
  The walk of ReaderInside.
-/
import Derived.Test.YthmkhbinnglemaaDoorRdP
import Derived.Test.YthmkhbinnglemaaDoorRdQ
import Derived.Test.YthmkhbinnglemaaDoorLwB
import Derived.Deep.RegionHeld3
namespace Go.Proofs.YthmkhbinnglemaaDoor
open Go.RowKit
open Lx
set_option linter.unusedVariables false
set_option linter.unusedSimpArgs false
set_option maxRecDepth 100000

theorem zero_any (v : Value) (w : World) (h : GramIs w v Rd.zero) : Calls Tryd.prog 10 #[v] w fun e w' => e = .returned (.bool true) ∧ Below w.heap.size w w' := by
  obtain ⟨_, _, _, _, rfl, ⟨A1, c1, rfl, k1⟩, ⟨A2, c2, rfl, k2⟩, ⟨A3, c3, pl, rfl, q3, k3, j3⟩, ⟨A4, c4, ql, rfl, q4, k4, j4⟩⟩ := h.ex
  have H := Lib.hid h
  clear h k1 k2 k3 j3 k4 j4 q3 q4
  simp only [Rd.zero, List.length_nil] at H ⊢
  go_enter Tryd.func10, Tryd.ntmps10
  go_wp2_with fail
  have hb : Below w.heap.size w (w.alloc (.cells #[.slice A1 0 c1, .slice A2 0 c2, .slice A3 0 c3, .string (str []), .slice A4 0 c4] 28)) := (Below.refl _ _).alloc (Nat.le_refl _) _
  refine (same_any _ zeroG Rd.zero _ (H.out.below hb) (GramIs.zero _) (by simp [Rd.zero]) (by simp [Rd.zero]) (by simp [Rd.zero])).mono ?_
  rintro e w1 ⟨rfl, hb1⟩
  have HB := Lib.hid (hb.trans (hb1.mono (by simp)))
  clear hb hb1
  go_wp2_with fail
  go_ret
  exact ⟨rfl, HB.out⟩

/-- Is one of the places below k the place P? -/
def There (l : List UInt8) (P : Nat × Nat) (k : Nat) (b : Bool) : Prop := b = true ↔ ∃ j, j < k ∧ pos l j = P

theorem nodup_ne {α : Type} {l : List α} (h : l.Nodup) {i j : Nat} {x y : α} (hi : l[i]? = some x) (hj : l[j]? = some y) (hij : i ≠ j) : x ≠ y := by
  rintro rfl
  obtain ⟨h1, h2⟩ := List.getElem?_eq_some_iff.1 hi
  obtain ⟨h3, h4⟩ := List.getElem?_eq_some_iff.1 hj
  exact hij ((List.getElem_inj h).1 (h2.trans h4.symm))
theorem str_ne {a b : List UInt8} (h : a ≠ b) : ((str a).toList == (str b).toList) = false := by
  rw [str_same]; simpa using h
def allNames (ls : List Rd.Lev) (k : Nat) : List Rd.Name := (ls.take k).flatMap Rd.Lev.names
theorem allNames_succ {ls : List Rd.Lev} {k : Nat} {x : Rd.Lev} (h : ls[k]? = some x) : allNames ls (k + 1) = allNames ls k ++ x.names := by
  unfold allNames
  rw [List.take_add_one, h]; simp
theorem allNames_le (ls : List Rd.Lev) (k : Nat) : (allNames ls k).length ≤ (ls.flatMap Rd.Lev.names).length := by
  have h : (ls.flatMap Rd.Lev.names).length = (allNames ls k).length + ((ls.drop k).flatMap Rd.Lev.names).length := by
    unfold allNames
    rw [← List.length_append, ← List.flatMap_append, List.take_append_drop]
  omega
theorem allNames_all (ls : List Rd.Lev) : allNames ls ls.length = ls.flatMap Rd.Lev.names := by unfold allNames; rw [List.take_length]

set_option maxHeartbeats 4000000 in
theorem inside_law (s : ByteArray) (hs : s.size ≤ 9223372036854775807) (W : World) (hT : Tab W) (h0 : 0 < W.heap.size) :
    Calls Tryd.prog 3 #[.string s] W fun e w' => e = .returned (.bool true) ∧ Below W.heap.size W w' := by
  have HT := Lib.hid hT
  clear hT
  obtain ⟨i0, hi, hz0, hz1, hz2⟩ := info_parts strinfo
  go_enter Tryd.func3, Tryd.ntmps3
  go_wp2_with fail
  refine (awake6_any _ HT.out h0).mono ?_
  rintro e w1 ⟨rfl, hb1⟩
  have HB1 := Lib.hid hb1
  have HT1 := Lib.hid (HT.out.below hb1 h0)
  have hs1 := hb1.size
  clear hb1
  by_cases h400 : (400 : Int) < (s.size : Int)
  · go_wp2_with fail
    go_ret
    exact ⟨rfl, HB1.out⟩
  · have hle : (s.size : Int) ≤ 400 := by omega
    clear h400
    go_wp2_with fail
    obtain ⟨D, hD⟩ : ∃ D, Rd.readD (bl s) = D := ⟨_, rfl⟩
    obtain ⟨G, hG⟩ : ∃ G, Rd.readG (bl s) = G := ⟨_, rfl⟩
    obtain ⟨c, P⟩ := D
    have HD := Lib.hid hD
    have HG := Lib.hid hG
    refine (read_is s G (c, P) _ (by omega) HT1.out (by omega) hG hD).mono ?_
    rintro e w2 ⟨⟨gv, rfl, hgi⟩, hb2⟩
    obtain ⟨_, _, _, _, rfl, ⟨A1, c1, rfl, k1⟩, ⟨A2, c2, rfl, k2⟩, ⟨A3, c3, pl, rfl, q3, k3, j3⟩, ⟨A4, c4, ql, rfl, q4, k4, j4⟩⟩ := hgi.ex
    simp only [diagV]
    have hs2 := hb2.size
    obtain ⟨hg, hd, hbn⟩ := two_new w2 #[.slice A1 G.toks.length c1, .slice A2 G.skips.length c2, .slice A3 G.levels.length c3, .string (str G.start), .slice A4 G.rules.length c4] #[.int .i64 (c : Int), .int .i64 (P.1 : Int), .int .i64 (P.2 : Int)]
    by_cases hc : c = 0
    · subst hc
      rw [show ((0 : Nat) : Int) = 0 from rfl] at hg hd hbn ⊢
      obtain ⟨hok, hcnt⟩ := Rd.read_good hD
      rw [hG] at hok hcnt
      have HOK := Lib.hid hok
      have HCNT := Lib.hid hcnt
      have hste : (str G.start).toList.isEmpty = false := by
        rw [toList_eq, bl_str, List.isEmpty_eq_false_iff]; exact hok.start
      obtain ⟨na, ha⟩ : ∃ a, G.toks.length = a := ⟨_, rfl⟩
      obtain ⟨nb, hb⟩ : ∃ b, G.skips.length = b := ⟨_, rfl⟩
      obtain ⟨nc, hcc⟩ : ∃ c, G.levels.length = c := ⟨_, rfl⟩
      obtain ⟨nd, hdd⟩ : ∃ d, G.rules.length = d := ⟨_, rfl⟩
      have f1 : (na : Int) ≤ 20 := by have := hok.ntok; omega
      have f2 : (nb : Int) ≤ 4 := by have := hok.nskip; omega
      have f3 : (nc : Int) ≤ 10 := by have := hok.nlev; omega
      have f4 : (nd : Int) ≤ 40 := by have := hok.rok.1; omega
      have f0 : nd ≠ 0 := fun e => hok.rules (List.eq_nil_of_length_eq_zero (by omega))
      have f5 : ((nd : Int) == 0) = false := by rw [beq_eq_false_iff_ne]; omega
      have f6 : (nd == 0) = false := by rw [beq_eq_false_iff_ne]; omega
      rw [ha, hb, hcc, hdd] at hgi hg hd hbn ⊢
      have HA := Lib.hid ha
      have HC := Lib.hid hcc
      obtain ⟨st, hst⟩ : ∃ st, str G.start = st := ⟨_, rfl⟩
      rw [hst] at hste hgi hg hd hbn ⊢
      have K1 := Lib.hid k1
      have K3 := Lib.hid k3
      have Q3 := Lib.hid q3
      have J3 := Lib.hid j3
      clear hok hcnt hD hG f0 ha hb hcc hdd hst k1 k2 k3 j3 k4 j4 q3 q4
      go_wp2_with fail
      obtain ⟨w3, hw3⟩ : ∃ w3, (w2.alloc (.cells #[.slice A1 na c1, .slice A2 nb c2, .slice A3 nc c3, .string st, .slice A4 nd c4] 28)).alloc (.cells #[.int .i64 0, .int .i64 (P.1 : Int), .int .i64 (P.2 : Int)] 33) = w3 := ⟨_, rfl⟩
      obtain ⟨gg, hgg⟩ : ∃ gg, w2.heap.size = gg := ⟨_, rfl⟩
      have hB3 := HB1.out.trans ((hb2.trans (hbn.mono hs2)).mono hs1)
      rw [hw3] at hg hbn hB3 ⊢
      have hk1 := K1.out.below hbn
      have hk3 := K3.out.below hbn
      have hj3 : ∀ p ∈ pl, Nms w3 p.2 p.1.names := fun p hp => (J3.out p hp).stay (Stay.below hbn)
      rw [hgg] at hg ⊢
      have HGG := Lib.hid hg
      have HB3 := Lib.hid hB3
      have L1 := Lib.hid hk1
      have L3 := Lib.hid hk3
      have N3 := Lib.hid hj3
      have x0 := hg.cell 0
      have x2 := hg.cell 2
      simp only [List.getElem?_toArray, List.getElem?_cons_zero, List.getElem?_cons_succ] at x0 x2
      have hgl := hg.lt
      clear hgi hg hd hbn hB3 hw3 hgg hb2 hk1 hk3 hj3 K1 K3 J3 hste f1 f2 f4 f5 f6
      go_loopw [8] (fun i wr => ∃ k m : Nat, k ≤ na ∧ i = .int .i64 (k : Int) ∧ wr = w3.drewN m) (fun i _ => na - (intOf i).toNat)
      case atStart => exact ⟨0, 0, by omega, rfl, rfl⟩
      case round =>
        obtain ⟨k, m, hk, rfl, rfl⟩ := hrel
        by_cases hlt : k < na
        · have hki : (k : Int) < (na : Int) := by omega
          go_wp2_with fail
          go_loopw [9] (fun i wr' => ∃ k' m' : Nat, k' ≤ k ∧ i = .int .i64 (k' : Int) ∧ wr' = w3.drewN m') (fun i _ => k - (intOf i).toNat)
          case atStart => exact ⟨0, m, by omega, rfl, rfl⟩
          case round =>
            obtain ⟨k', m', hk', rfl, rfl⟩ := hrel
            by_cases hlt' : k' < k
            · obtain ⟨t, ht⟩ := some_get (l := G.toks) (i := k) (by rw [HA.out]; exact hlt)
              obtain ⟨t', ht'⟩ := some_get (l := G.toks) (i := k') (by rw [HA.out]; omega)
              have hne : t.name ≠ t'.name := nodup_ne HOK.out.toks (i := k) (j := k') (by rw [List.getElem?_map, ht]; rfl) (by rw [List.getElem?_map, ht']; rfl) (by omega)
              have hcc := str_ne hne
              have hv : (toksV G.toks)[k * 4 + 0]? = some (.string (str t.name)) := toksV_get G.toks k 0 t _ ht (by omega) rfl
              have hv' : (toksV G.toks)[k' * 4 + 0]? = some (.string (str t'.name)) := toksV_get G.toks k' 0 t' _ ht' (by omega) rfl
              obtain ⟨b1, o1, hA, hb1, g1⟩ := L1.out.cell (fun e => by rw [e] at hv; simp at hv)
              have y0 : w3.cell? ⟨b1, o1 + k * 4, none⟩ = some (.string (str t.name)) := g1 _ _ hv
              have y1 : w3.cell? ⟨b1, o1 + k' * 4, none⟩ = some (.string (str t'.name)) := g1 _ _ hv'
              have x0' := x0
              rw [hA] at x0'
              have hki' : (k' : Int) < (k : Int) := by omega
              have hki2 : (k' : Int) < (na : Int) := by omega
              have hk0 : (0 : Int) ≤ (k : Int) := by omega
              have hk1 : (0 : Int) ≤ (k' : Int) := by omega
              clear ht ht' hne hv hv' hA g1 x0
              generalize str t.name = T at y0 hcc
              generalize str t'.name = T' at y1 hcc
              go_wp2_with fail
              go_quiet (fail)
              go_wp2_with fail
              go_roundw
              case rel => exact ⟨k' + 1, _, by omega, by go_num, rfl⟩
              case measure => simp [intOf]; omega
            · obtain rfl : k = k' := by omega
              go_wp2_with fail
              go_roundw
              case rel => exact ⟨k + 1, _, by omega, by go_num, rfl⟩
              case measure => simp [intOf]; omega
        · obtain rfl : na = k := by omega
          go_wp2_with fail
          obtain ⟨w4, hw4⟩ : ∃ w4, w3.drewN m = w4 := ⟨_, rfl⟩
          have hb4 : Below w3.heap.size w3 w4 := by rw [← hw4]; exact below_drewN (Below.refl _ _) _
          rw [hw4]
          have HGG4 := Lib.hid (HGG.out.below hb4 hgl)
          have HB4 := Lib.hid (HB3.out.trans (hb4.mono HB3.out.size))
          have L4 := Lib.hid (L3.out.below hb4)
          have N4 := Lib.hid (show ∀ p ∈ pl, Nms w4 p.2 p.1.names from fun p hp => (N3.out p hp).stay (Stay.below hb4))
          clear x0 x2 hgl hw4 hb4
          have hgl4 := HGG4.out.lt
          go_loopw [10, 11] (fun v i wr => ∃ (k : Nat) (a5 : Option Addr) (s5 : Nat), k ≤ nc ∧ i = .int .i64 (k : Int) ∧ v = .slice a5 (allNames G.levels k).length s5 ∧ wr.ownsRow w4.heap.size 9 1 (.slice a5 (allNames G.levels k).length s5) (allNames G.levels k).length (namesV (allNames G.levels k)) ∧ Below w4.heap.size w4 wr) (fun _ i _ => nc - (intOf i).toNat)
          case atStart => exact ⟨0, none, 0, by omega, rfl, rfl, World.ownsRow_nil _ _ _ _, Below.refl _ _⟩
          case round =>
            obtain ⟨k, a5, s5, hk, rfl, rfl, hown, hbe⟩ := hrel
            have HO := Lib.hid hown
            have HBE := Lib.hid hbe
            have hsz := hbe.size
            have hat := HGG4.out.below hbe hgl4
            have HAT := Lib.hid hat
            have x2 := hat.cell 2
            simp only [List.getElem?_toArray, List.getElem?_cons_zero, List.getElem?_cons_succ] at x2
            have hagl := hat.lt
            clear hown hbe hat
            by_cases hlt : k < nc
            · obtain ⟨l, hl⟩ := some_get (l := G.levels) (i := k) (by rw [HC.out]; exact hlt)
              obtain ⟨p, hp, hpx⟩ : ∃ p, pl[k]? = some p ∧ p.1 = l := by
                have h := hl
                rw [← Q3.out, List.getElem?_map, Option.map_eq_some_iff] at h
                exact h
              obtain ⟨E9, d9, hv1, hl1⟩ := N4.out p (List.mem_of_getElem? hp)
              rw [hpx] at hv1 hl1
              obtain ⟨hn0, ha1, ha3⟩ := HOK.out.each l (List.mem_of_getElem? hl)
              have hnv : namesV l.names ≠ [] := by
                intro e
                have := congrArg List.length e
                simp [namesV] at this
                exact hn0 this
              obtain ⟨rb, ro, rfl, hrb, hrc⟩ := (hl1.below HBE.out).cell hnv
              have hvv := fun j u (hj : j < 2) (hu : (levCells p)[j]? = some u) => flat_get levCells 2 (fun _ => rfl) pl k j p u hp hj hu
              obtain ⟨b1, o1, hA, hb1, g1⟩ := (L4.out.below HBE.out).cell (fun e => by have h := hvv 0 _ (by omega) rfl; rw [show pl.flatMap levCells = levsV pl from rfl, e] at h; simp at h)
              rw [hA] at x2
              have y0 : wr.cell? ⟨b1, o1 + k * 2, none⟩ = some (.int .i64 (p.1.assoc : Int)) := g1 _ _ (hvv 0 _ (by omega) rfl)
              have y1 : wr.cell? ⟨b1, o1 + k * 2 + 1, none⟩ = some p.2 := by rw [Nat.add_assoc]; exact g1 _ _ (hvv 1 _ (by omega) rfl)
              rw [hpx] at y0
              rw [hv1] at y1
              have hlast := allNames_succ hl
              have hcnt1 := allNames_le G.levels k
              have hcnt2 := allNames_le G.levels (k + 1)
              have hcn := HCNT.out
              rw [hlast, List.length_append] at hcnt2
              have LL := Lib.hid (L4.out.below HBE.out)
              have HLAST := Lib.hid hlast
              have HHA := Lib.hid hA
              obtain ⟨nn, hnn⟩ : ∃ nn, l.names.length = nn := ⟨_, rfl⟩
              obtain ⟨an, han⟩ : ∃ an, (allNames G.levels k).length = an := ⟨_, rfl⟩
              rw [hnn] at y1 hcnt2
              have hown := HO.out
              rw [han] at hcnt1 hcnt2 hown ⊢
              have HO' := Lib.hid hown
              have HNN := Lib.hid hnn
              have HAN := Lib.hid han
              have z0 : nn ≠ 0 := by rw [← hnn]; intro e; exact hn0 (List.eq_nil_of_length_eq_zero e)
              have z1 : ((nn : Int) == 0) = false := by rw [beq_eq_false_iff_ne]; omega
              have z2 : (nn == 0) = false := by rw [beq_eq_false_iff_ne]; omega
              obtain ⟨asc, has⟩ : ∃ asc, l.assoc = asc := ⟨_, rfl⟩
              rw [has] at y0 ha1 ha3
              have z3 : (1 : Int) ≤ (asc : Int) := by omega
              have z4 : (asc : Int) ≤ 3 := by omega
              have hki : (k : Int) < (nc : Int) := by omega
              have hk0 : (0 : Int) ≤ (k : Int) := by omega
              have hrcA : ∀ j u, (namesV l.names)[j]? = some u → wr.cell? ((⟨rb, ro, none⟩ : Addr).add j) = some u := fun j u hj => by
                rw [Go.WideShapes.add_plain]; exact hrc j u hj
              have hone : ∀ u ∈ namesV l.names, u.oneCell' = true := fun u hu => by
                simp only [namesV, List.mem_map] at hu
                obtain ⟨x, _, rfl⟩ := hu; rfl
              have hle1 : (namesV l.names).length = nn * 1 := by simp [namesV, hnn]
              have HRC := Lib.hid hrcA
              have HONE := Lib.hid hone
              have HLE1 := Lib.hid hle1
              have HPP := Lib.hid hp
              have HPX := Lib.hid hpx
              have HV1 := Lib.hid hv1
              have HAS := Lib.hid has
              clear hl hp hpx hv1 hl1 hn0 hnv hrc hvv g1 hA hlast hown hnn han has z0 ha1 ha3 hrcA hone hle1
              go_wp2_with (at_builtin; refine wpList_append_own2 _ rfl (.tmp 115) (.tmp 121) 42 rfl w4.heap.size 9 i0 _ 1 16 Tryd.underlying42 hi hz0 hz1 hz2 rfl (by decide) _ _ _ rfl HO'.out ⟨rb, ro, none⟩ nn d9 (namesV l.names) rfl HLE1.out HRC.out HONE.out (by unfold maxLen; omega) (by omega) (by omega) ?_)
              intro v' w5 hown5 hg5 hn5
              obtain ⟨a6, s6, rfl⟩ := own_form hown5
              have hat5 := HAT.out.grown hg5 (fun e => own_apart HO'.out HAT.out (by decide) e.symm)
              have x2' := hat5.cell 2
              simp only [List.getElem?_toArray, List.getElem?_cons_zero, List.getElem?_cons_succ] at x2'
              rw [HHA.out] at x2'
              have hl5 := LL.out.stay (Stay.own HO'.out (by decide) hg5)
              rw [HHA.out] at hl5
              obtain ⟨b2, o2, hB, hb2, g2⟩ := hl5.cell (fun e => by have h := flat_get levCells 2 (fun _ => rfl) pl k 0 p _ HPP.out (by omega) rfl; rw [show pl.flatMap levCells = levsV pl from rfl, e] at h; simp at h)
              injection hB with hB
              injection hB with hB1 hB2
              subst hB1 hB2
              have yy0 := (g2 _ _ (flat_get levCells 2 (fun _ => rfl) pl k 0 p _ HPP.out (by omega) rfl) : w5.cell? ⟨b1, o1 + (k * 2 + 0), none⟩ = some (.int .i64 (p.1.assoc : Int)))
              have yy1 := (g2 _ _ (flat_get levCells 2 (fun _ => rfl) pl k 1 p _ HPP.out (by omega) rfl) : w5.cell? ⟨b1, o1 + (k * 2 + 1), none⟩ = some p.2)
              have HBN := Lib.hid (HBE.out.grown hg5 hsz (fun j hj => (own_lt HO'.out j hj).1))
              rw [HPX.out, HAS.out] at yy0
              rw [HV1.out, HNN.out] at yy1
              have v0 : w5.cell? ⟨b1, o1 + k * 2, none⟩ = some (.int .i64 (asc : Int)) := yy0
              have v1 : w5.cell? ⟨b1, o1 + k * 2 + 1, none⟩ = some (.slice (some ⟨rb, ro, none⟩) nn d9) := by rw [Nat.add_assoc]; exact yy1
              have HO5 := Lib.hid hown5
              clear hat5 hl5 g2 yy0 yy1 hown5 hg5 hn5 x2 y0 y1
              go_wp2_with fail
              go_roundw
              case rel =>
                refine ⟨k + 1, a6, s6, by omega, by go_num, ?_, ?_, HBN.out⟩
                · rw [HLAST.out, List.length_append, HAN.out, HNN.out]
                · rw [HLAST.out, List.length_append, HAN.out, HNN.out]
                  have := HO5.out
                  simpa [namesV] using this
              case measure => simp [intOf]; omega
            · obtain rfl : nc = k := by omega
              obtain ⟨NN, hNN⟩ : ∃ NN, allNames G.levels nc = NN := ⟨_, rfl⟩
              have hnd : NN.Nodup := by
                rw [← hNN, ← HC.out, allNames_all]; exact HOK.out.lev
              have hlie := Lie.own HO.out
              have hsm : NN.length ≤ 4001 := by
                have h1 := allNames_le G.levels nc
                have h2 := HCNT.out
                rw [hNN] at h1; omega
              rw [hNN] at hlie ⊢
              obtain ⟨n, hn⟩ : ∃ n, NN.length = n := ⟨_, rfl⟩
              rw [hn] at hsm ⊢
              have HND := Lib.hid hnd
              have HLIE := Lib.hid hlie
              have HN := Lib.hid hn
              clear hNN hnd hlie hn
              go_wp2_with fail
              clear x2
              go_loopw [12] (fun i wr' => ∃ k m : Nat, k ≤ n ∧ i = .int .i64 (k : Int) ∧ wr' = wr.drewN m) (fun i _ => n - (intOf i).toNat)
              case atStart => exact ⟨0, 0, by omega, rfl, rfl⟩
              case round =>
                rename_i wq
                obtain ⟨k, m, hk, rfl, rfl⟩ := hrel
                by_cases hlt : k < n
                · have hki : (k : Int) < (n : Int) := by omega
                  go_wp2_with fail
                  go_loopw [13] (fun i wr' => ∃ k' m' : Nat, k' ≤ k ∧ i = .int .i64 (k' : Int) ∧ wr' = wr.drewN m') (fun i _ => k - (intOf i).toNat)
                  case atStart => exact ⟨0, m, by omega, rfl, rfl⟩
                  case round =>
                    obtain ⟨k', m', hk', rfl, rfl⟩ := hrel
                    by_cases hlt' : k' < k
                    · obtain ⟨t, ht⟩ := some_get (l := NN) (i := k) (by rw [HN.out]; exact hlt)
                      obtain ⟨t', ht'⟩ := some_get (l := NN) (i := k') (by rw [HN.out]; omega)
                      have hcc := str_ne (nodup_ne HND.out ht ht' (by omega))
                      have hv : (namesV NN)[k]? = some (.string (str t)) := by simp [namesV, ht]
                      have hv' : (namesV NN)[k']? = some (.string (str t')) := by simp [namesV, ht']
                      obtain ⟨b1, o1, rfl, hb1, g1⟩ := HLIE.out.cell (fun e => by rw [e] at hv; simp at hv)
                      have y0 : wr.cell? ⟨b1, o1 + k, none⟩ = some (.string (str t)) := g1 _ _ hv
                      have y1 : wr.cell? ⟨b1, o1 + k', none⟩ = some (.string (str t')) := g1 _ _ hv'
                      have hki' : (k' : Int) < (k : Int) := by omega
                      have hki2 : (k' : Int) < (n : Int) := by omega
                      have hk0 : (0 : Int) ≤ (k : Int) := by omega
                      have hk1 : (0 : Int) ≤ (k' : Int) := by omega
                      clear ht ht' hv hv' g1
                      generalize str t = T at y0 hcc
                      generalize str t' = T' at y1 hcc
                      go_wp2_with fail
                      go_quiet (fail)
                      go_wp2_with fail
                      go_roundw
                      case rel => exact ⟨k' + 1, _, by omega, by go_num, rfl⟩
                      case measure => simp [intOf]; omega
                    · obtain rfl : k = k' := by omega
                      go_wp2_with fail
                      go_roundw
                      case rel => exact ⟨k + 1, _, by omega, by go_num, rfl⟩
                      case measure => simp [intOf]; omega
                · obtain rfl : n = k := by omega
                  go_wp2_with fail
                  go_ret
                  exact ⟨rfl, below_drewN (HB4.out.trans (HBE.out.mono HB4.out.size)) _⟩
    · obtain ⟨⟨i1, hi1, hp1⟩, hz⟩ := Rd.read_bad hD hc
      rw [hG] at hz
      subst hz
      have n1 : ((c : Int) != 0) = true := by rw [bne_iff_ne]; omega
      have n2 : (c != 0) = true := by rw [bne_iff_ne]; omega
      clear hD hG hc
      simp only [Rd.zero, List.length_nil] at hgi hg hd hbn ⊢
      go_wp2_with fail
      obtain ⟨w3, hw3⟩ : ∃ w3, (w2.alloc (.cells #[.slice A1 0 c1, .slice A2 0 c2, .slice A3 0 c3, .string (str []), .slice A4 0 c4] 28)).alloc (.cells #[.int .i64 (c : Int), .int .i64 (P.1 : Int), .int .i64 (P.2 : Int)] 33) = w3 := ⟨_, rfl⟩
      obtain ⟨gg, hgg⟩ : ∃ gg, w2.heap.size = gg := ⟨_, rfl⟩
      have hB3 := HB1.out.trans ((hb2.trans (hbn.mono hs2)).mono hs1)
      rw [hw3] at hg hd hbn hB3 ⊢
      have HGI := Lib.hid (hgi.below hbn)
      rw [hgg] at hg hd ⊢
      have HGG := Lib.hid hg
      have HDD := Lib.hid hd
      have HB3 := Lib.hid hB3
      have HP1 := Lib.hid hp1
      have hgl := hg.lt
      have hdl := hd.lt
      rw [bl_length] at hi1
      clear hgi hg hd hbn hB3 hw3 hgg hb2 hp1 k1 k2 k3 j3 k4 j4 q3 q4
      go_loopw [6, 7] (fun t i wr => ∃ (k : Nat) (b : Bool), k ≤ s.size + 1 ∧ i = .int .i64 (k : Int) ∧ t = .bool b ∧ There (bl s) P k b ∧ Below w3.heap.size w3 wr) (fun _ i _ => s.size + 1 - (intOf i).toNat)
      case atStart => exact ⟨0, false, by omega, rfl, rfl, ⟨fun h => (by cases h), fun h => (by obtain ⟨j, hj, _⟩ := h; omega)⟩, Below.refl _ _⟩
      case round =>
        obtain ⟨k, b, hk, rfl, rfl, hth, hbe⟩ := hrel
        have HTH := Lib.hid hth
        have HBE := Lib.hid hbe
        have hs9 := hbe.size
        have hat := HDD.out.below hbe hdl
        have d0 := hat.cell 1
        have d1 := hat.cell 2
        simp only [List.getElem?_toArray, List.getElem?_cons_zero, List.getElem?_cons_succ] at d0 d1
        have HAT := Lib.hid hat
        have hgr : gg + 1 < wr.heap.size := hat.lt
        clear hth hbe hat
        by_cases hlt : k ≤ s.size
        · have hki : (k : Int) ≤ (s.size : Int) := by omega
          cases b with
          | true =>
            go_wp2_with fail
            go_quiet (fail)
            go_wp2_with fail
            go_roundw
            case rel => exact ⟨k + 1, true, by omega, by go_num, rfl, ⟨fun _ => by obtain ⟨j, hj, hp⟩ := HTH.out.1 rfl; exact ⟨j, by omega, hp⟩, fun _ => rfl⟩, below_drewN HBE.out _⟩
            case measure => simp [intOf]; omega
          | false =>
            obtain ⟨Q, hQ⟩ : ∃ Q, pos (bl s) (min (max (k : Int) 0).toNat s.size) = Q := ⟨_, rfl⟩
            have hQ' : pos (bl s) k = Q := by rw [← hQ]; congr 1; omega
            have HQ := Lib.hid hQ
            have HQ' := Lib.hid hQ'
            clear hQ hQ'
            by_cases h1 : Q = P
            · have c1 : ((Q.1 : Int) == (P.1 : Int)) = true := by rw [h1]; simp
              have c2 : ((Q.2 : Int) == (P.2 : Int)) = true := by rw [h1]; simp
              have c3 : (Q.1 == P.1) = true := by rw [h1]; simp
              have c4 : (Q.2 == P.2) = true := by rw [h1]; simp
              have HTN := Lib.hid (show There (bl s) P (k + 1) true from ⟨fun _ => ⟨k, by omega, by rw [HQ'.out]; exact h1⟩, fun _ => rfl⟩)
              clear h1
              go_wp2_with fail
              go_region_held3 (fun w' => w'.cell? ⟨gg + 1, 1, none⟩ = some (.int .i64 (P.1 : Int)) ∧ w'.cell? ⟨gg + 1, 2, none⟩ = some (.int .i64 (P.2 : Int))) (go_keep) (
                (go_at_call 9; refine Calls.mono (rAt_any s k _ (by omega) (by omega)) ?_; rw [HQ.out]; rintro e w4 ⟨rfl, hb4⟩
                 have hk4 : Below wr.heap.size wr w4 := by first | exact hb4 | exact below_undrew hb4
                 have hg4 := HAT.out.below hk4 hgr
                 have f0 := hg4.cell 1
                 have f1 := hg4.cell 2
                 have hl4 := hg4.lt
                 simp only [List.getElem?_toArray, List.getElem?_cons_zero, List.getElem?_cons_succ] at f0 f1))
              go_wp2_with fail
              go_roundw
              case rel => exact ⟨k + 1, _, by omega, by go_num, rfl, HTN.out, HBE.out.trans (hk4.mono hs9)⟩
              case measure => simp [intOf]; omega
            · have HTN := Lib.hid (show There (bl s) P (k + 1) false from ⟨fun e => (by cases e), fun h => (by
                obtain ⟨j, hj, hp⟩ := h
                by_cases hjk : j = k
                · subst hjk
                  rw [HQ'.out] at hp
                  exact absurd hp h1
                · exact absurd (HTH.out.2 ⟨j, by omega, hp⟩) (by simp))⟩)
              by_cases h2 : Q.1 = P.1
              · have h3 : Q.2 ≠ P.2 := fun e => h1 (Prod.ext h2 e)
                have c1 : ((Q.1 : Int) == (P.1 : Int)) = true := by rw [h2]; simp
                have c3 : (Q.1 == P.1) = true := by rw [h2]; simp
                have c2 : ((Q.2 : Int) == (P.2 : Int)) = false := by rw [beq_eq_false_iff_ne]; omega
                have c4 : (Q.2 == P.2) = false := by rw [beq_eq_false_iff_ne]; omega
                clear h1 h2 h3
                go_wp2_with fail
                go_region_held3 (fun w' => w'.cell? ⟨gg + 1, 1, none⟩ = some (.int .i64 (P.1 : Int)) ∧ w'.cell? ⟨gg + 1, 2, none⟩ = some (.int .i64 (P.2 : Int))) (go_keep) (
                  (go_at_call 9; refine Calls.mono (rAt_any s k _ (by omega) (by omega)) ?_; rw [HQ.out]; rintro e w4 ⟨rfl, hb4⟩
                   have hk4 : Below wr.heap.size wr w4 := by first | exact hb4 | exact below_undrew hb4
                   have hg4 := HAT.out.below hk4 hgr
                   have f0 := hg4.cell 1
                   have f1 := hg4.cell 2
                   have hl4 := hg4.lt
                   simp only [List.getElem?_toArray, List.getElem?_cons_zero, List.getElem?_cons_succ] at f0 f1))
                go_wp2_with fail
                go_roundw
                case rel => exact ⟨k + 1, _, by omega, by go_num, rfl, HTN.out, HBE.out.trans (hk4.mono hs9)⟩
                case measure => simp [intOf]; omega
              · have c1 : ((Q.1 : Int) == (P.1 : Int)) = false := by rw [beq_eq_false_iff_ne]; omega
                have c3 : (Q.1 == P.1) = false := by rw [beq_eq_false_iff_ne]; omega
                clear h1 h2
                go_wp2_with fail
                go_region_held3 (fun w' => w'.cell? ⟨gg + 1, 1, none⟩ = some (.int .i64 (P.1 : Int)) ∧ w'.cell? ⟨gg + 1, 2, none⟩ = some (.int .i64 (P.2 : Int))) (go_keep) (
                  (go_at_call 9; refine Calls.mono (rAt_any s k _ (by omega) (by omega)) ?_; rw [HQ.out]; rintro e w4 ⟨rfl, hb4⟩
                   have hk4 : Below wr.heap.size wr w4 := by first | exact hb4 | exact below_undrew hb4
                   have hg4 := HAT.out.below hk4 hgr
                   have f0 := hg4.cell 1
                   have f1 := hg4.cell 2
                   have hl4 := hg4.lt
                   simp only [List.getElem?_toArray, List.getElem?_cons_zero, List.getElem?_cons_succ] at f0 f1))
                go_wp2_with fail
                go_roundw
                case rel => exact ⟨k + 1, _, by omega, by go_num, rfl, HTN.out, HBE.out.trans (hk4.mono hs9)⟩
                case measure => simp [intOf]; omega
        · obtain rfl : k = s.size + 1 := by omega
          have hb : b = true := HTH.out.2 ⟨i1, by omega, HP1.out⟩
          subst hb
          have hgat := HGG.out.below HBE.out hgl
          have x0 := hgat.cell 0
          have x1 := hgat.cell 1
          have x2 := hgat.cell 2
          have x3 := hgat.cell 3
          have x4 := hgat.cell 4
          simp only [List.getElem?_toArray, List.getElem?_cons_zero, List.getElem?_cons_succ] at x0 x1 x2 x3 x4
          have hki : ¬ (((s.size + 1 : Nat) : Int) ≤ (s.size : Int)) := by omega
          go_wp2_with fail
          refine (zero_any _ _ (HGI.out.below HBE.out)).mono ?_
          rintro e w9 ⟨rfl, hb9⟩
          have HB9 := Lib.hid ((HB3.out.trans (HBE.out.mono HB3.out.size)).trans (hb9.mono (by have := HB3.out.size; omega)))
          clear hb9
          go_wp2_with fail
          go_ret
          exact ⟨rfl, HB9.out⟩

end Go.Proofs.YthmkhbinnglemaaDoor
