/-
  The walk of ReaderRules.
-/
import Derived.Test.YtgmihbfikggkjaaDoorRdV
import Derived.Test.YtgmihbfikggkjaaDoorRdW
import Derived.Test.YtgmihbfikggkjaaDoorOps3
namespace Go.Proofs.YtgmihbfikggkjaaDoor
open Go.RowKit
open Lx
set_option linter.unusedVariables false
set_option linter.unusedSimpArgs false
set_option maxRecDepth 100000

/-- The first eight of the k-th row. -/
def row8 (NN : Nat → Nat) (XX : Nat → Nat → Nat) (k : Nat) : List Nat := (List.range (min (NN k) 8)).map (XX k)
theorem row8_len (NN : Nat → Nat) (XX : Nat → Nat → Nat) (k : Nat) : (row8 NN XX k).length ≤ 8 := by simp [row8]; omega
theorem row8_px {NN : Nat → Nat} {XX : Nat → Nat → Nat} {k : Nat} (h : NN k ≤ 8) : row8 NN XX k = px (XX k) (NN k) := by unfold row8 px; rw [Nat.min_eq_left h]
def stOf (m : Nat) (S : Nat → Bool) (k : Nat) : Bool := decide (k < m) && S k
theorem lf_start (X : Nat → Nat) (st : Nat → Bool) {k : Nat} (h : k ≠ 0) (hs : st k = true) : Rd.lf X st k = X k := by
  obtain ⟨k, rfl⟩ : ∃ j, k = j + 1 := ⟨k - 1, by omega⟩
  rw [Rd.lf, if_pos hs]
theorem lf_bar (X : Nat → Nat) (st : Nat → Bool) {k : Nat} (h : k ≠ 0) (hs : st k = false) : Rd.lf X st k = Rd.lf X st (k - 1) := by
  obtain ⟨k, rfl⟩ : ∃ j, k = j + 1 := ⟨k - 1, by omega⟩
  rw [Rd.lf, if_neg (by rw [hs]; decide)]; rfl
namespace Rd
theorem headT_len (X : Nat → Nat) (st : Nat → Bool) (k : Nat) : (headT X st k).length ≤ 7 := by
  unfold headT
  split
  · simp [wd]
  · split <;> simp [wd]
theorem rowT_len (l : List Nat) : (rowT l).length = 3 * l.length := by
  induction l with
  | nil => rfl
  | cons n r ih => unfold rowT at ih ⊢; rw [List.flatMap_cons, List.length_append, ih]; simp [wd]; omega
theorem TT_len (X : Nat → Nat) (st : Nat → Bool) (R : Nat → List Nat) (hR : ∀ k, (R k).length ≤ 8) (k : Nat) : (TT X st R k).length ≤ 2 + 31 * k := by
  induction k with
  | zero => simp [TT]
  | succ k ih =>
    have h1 := headT_len X st k
    have h2 := rowT_len (R k)
    have h3 := hR k
    rw [TT, List.length_append, List.length_append]; omega
end Rd

theorem WW_right (X : Nat → Nat) (st : Nat → Bool) (NN : Nat → Nat) (XX : Nat → Nat → Nat) (n : Nat) : ∀ r ∈ Rd.WW X st (row8 NN XX) n, r.right.length ≤ 1000000 := by
  induction n with
  | zero => intro r h; simp [Rd.WW] at h
  | succ n ih =>
    intro r h
    rw [Rd.WW] at h
    rcases List.mem_append.1 h with h | h
    · exact ih r h
    · simp only [List.mem_cons, List.not_mem_nil, or_false] at h
      subst h
      show ((row8 NN XX n).map Rd.wd).length ≤ _
      rw [List.length_map]
      have := row8_len NN XX n
      omega

set_option maxHeartbeats 4000000 in
theorem rules_law (A0 : Option Addr) (n c0 : Nat) (X : Nat → Nat) (A1 : Option Addr) (n1 c1 : Nat) (AA : Nat → Option Addr) (NN CC : Nat → Nat) (XX : Nat → Nat → Nat) (A2 : Option Addr) (n2 c2 : Nat) (S : Nat → Bool) (W : World)
    (hX : Bytes8 W W.heap.size A0 n X) (hR : Rows8 W W.heap.size A1 n1 AA NN CC XX) (hS : Bools W W.heap.size A2 n2 S) (hT : Tab W) (h0 : 0 < W.heap.size) :
    Calls Tryd.prog 3 #[.slice A0 n c0, .slice A1 n1 c1, .slice A2 n2 c2] W fun e w' => e = .returned (.bool true) ∧ Below W.heap.size W w' := by
  have HT := Lib.hid hT
  have HX := Lib.hid hX
  have HR := Lib.hid hR
  have HS := Lib.hid hS
  have hn63 := hX.len
  have hm63 := hR.len
  have ho63 := hS.len
  clear hT hX hR hS
  obtain ⟨i0, hi, hz0, hz1, hz2⟩ := info_parts ruleinfo
  obtain ⟨i1, hi1, hy0, hy1, hy2⟩ := info_parts strinfo
  go_enter Tryd.func3, Tryd.ntmps3
  go_wp2_with fail
  refine (awake6_any _ HT.out h0).mono ?_
  rintro e w1 ⟨rfl, hb1⟩
  have HB1 := Lib.hid hb1
  have HT1 := Lib.hid (HT.out.below hb1 h0)
  have hs1 := hb1.size
  have HX1 := Lib.hid (HX.out.below hb1)
  have HR1 := Lib.hid (HR.out.below hb1)
  have HS1 := Lib.hid (Ones.below HS.out hb1)
  clear hb1
  by_cases hsmall : (n : Int) < 1
  · go_wp2_with fail
    go_ret
    exact ⟨rfl, HB1.out⟩
  have hn1 : (1 : Int) ≤ (n : Int) := by omega
  clear hsmall
  by_cases h12 : (12 : Int) < (n : Int)
  · go_wp2_with fail
    go_ret
    exact ⟨rfl, HB1.out⟩
  have hn12 : (n : Int) ≤ 12 := by omega
  clear h12
  by_cases hne : n1 = n
  rotate_left
  · have e1 : ((n1 : Int) != (n : Int)) = true := by rw [bne_iff_ne]; omega
    have e2 : (n1 != n) = true := by rw [bne_iff_ne]; omega
    clear hne
    go_wp2_with fail
    go_ret
    exact ⟨rfl, HB1.out⟩
  subst hne
  go_wp2_with fail
  go_loopw [8, 9, 10, 11] (fun s lv wv i wr => ∃ (k : Nat) (t lt : ByteArray) (a5 : Option Addr) (s5 : Nat) (ql : List (Rd.Rule × Value)), k ≤ n1 ∧ i = .int .i64 (k : Int) ∧ s = .string t ∧ bl t = Rd.TT X (stOf n2 S) (row8 NN XX) k ∧ lv = .string lt ∧ (k ≠ 0 → str (Rd.wd (Rd.lf X (stOf n2 S) (k - 1))) = lt) ∧ wv = .slice a5 k s5 ∧ wr.ownsRow w1.heap.size 30 4 (.slice a5 k s5) k (rulesV ql) ∧ ql.map (·.1) = Rd.WW X (stOf n2 S) (row8 NN XX) k ∧ (∀ p ∈ ql, Nms wr p.2 p.1.right) ∧ Below w1.heap.size w1 wr) (fun _ _ _ i _ => n1 - (intOf i).toNat)
  case atStart => exact ⟨0, ⟨#[37, 37]⟩, ⟨#[]⟩, none, 0, [], by omega, rfl, rfl, rfl, rfl, fun h => absurd rfl h, rfl, World.ownsRow_nil _ _ _ _, rfl, by simp, Below.refl _ _⟩
  case round =>
    obtain ⟨wo, rfl⟩ : ∃ wo, wo = wr := ⟨wr, rfl⟩
    obtain ⟨k, t, lt, a5, s5, ql, hk, rfl, rfl, htx, rfl, hlt0, rfl, hown, hql, hnm, hbe⟩ := hrel
    have hts : t.size ≤ 2 + 31 * k := by rw [← bl_length, htx]; exact Rd.TT_len _ _ _ (row8_len NN XX) k
    have HTX := Lib.hid htx
    have HLT := Lib.hid hlt0
    have HOWN := Lib.hid hown
    have HQL := Lib.hid hql
    have HNM := Lib.hid hnm
    have HBE := Lib.hid hbe
    have hsz := hbe.size
    clear htx hlt0 hown hql hnm hbe
    by_cases hlt : k < n1
    · obtain ⟨b0, o, hA, hb0, hcc0⟩ := HX1.out.each k hlt
      subst hA
      obtain ⟨b1, o1, hA, hb1, hcc1⟩ := HR1.out.each k hlt
      subst hA
      have hb01 : b0 < w1.heap.size := by omega
      have hb11 : b1 < w1.heap.size := by omega
      have hcell0 : wo.cell? ⟨b0, o + k, none⟩ = some (.int .u8 (X k : Int)) := (HBE.out.cell (p := ⟨b0, o + k, none⟩) hb01).trans hcc0
      have hcell1 : wo.cell? ⟨b1, o1 + k, none⟩ = some (.slice (AA k) (NN k) (CC k)) := (HBE.out.cell (p := ⟨b1, o1 + k, none⟩) hb11).trans hcc1
      have hx := HX1.out.rx k hlt
      obtain ⟨T, hTT⟩ : ∃ T, str (Rd.wd (X k)) = T := ⟨_, rfl⟩
      have hTs : T.size = 2 := by rw [← hTT]; rfl
      have HWD := Lib.hid (show ∀ w : World, Calls Tryd.prog 7 #[.int .u8 (X k : Int)] w fun e w' => e = .returned (.string T) ∧ ∃ n, w' = w.drewN n from fun w => hTT ▸ word6_any (X k) hx w)
      have HTW := Lib.hid hTT
      have hki : (k : Int) < (n1 : Int) := by omega
      have hk0 : (0 : Int) ≤ (k : Int) := by omega
      clear hTT hx hcc0 hcc1
      by_cases h8 : (8 : Int) < (NN k : Int)
      · go_wp2_with fail
        go_ret
        exact ⟨rfl, HB1.out.trans (HBE.out.mono hs1)⟩
      have h88 : (NN k : Int) ≤ 8 := by omega
      have HROW := Lib.hid (row8_px (XX := XX) (show NN k ≤ 8 by omega))
      have l1 : (⟨#[10]⟩ : ByteArray).size = 1 := rfl
      have l2 : (⟨#[32, 58]⟩ : ByteArray).size = 2 := rfl
      have l3 : (⟨#[32, 59]⟩ : ByteArray).size = 2 := rfl
      have l4 : (⟨#[32, 124]⟩ : ByteArray).size = 2 := rfl
      clear h8
      by_cases hk00 : k = 0
      · have e1 : ((k : Int) == 0) = true := by rw [hk00]; rfl
        have e2 : (k == 0) = true := by rw [hk00]; rfl
        have e3 : ¬ ((0 : Int) < (k : Int)) := by omega
        have HK0 := Lib.hid hk00
        clear hk00
        go_wp2_with fail
        refine (HWD.out _).mono ?_
        rintro e w2 ⟨rfl, q2, hq2⟩
        have hbw : Below wo.heap.size wo w2 := hq2 ▸ below_drewN (Below.refl _ _) q2
        have HBW := Lib.hid hbw
        have hsw := hbw.size
        clear hbw hq2
        go_wp2_with fail
        -- (t ++ ⟨#[10]⟩ ++ T ++ ⟨#[32, 58]⟩): the text, (simp only [bl_append, HTX.out, ← HTW.out, bl_str]; unfold Rd.headT; rw [if_pos HK0.out]; simp only [List.append_assoc]; rfl): its bytes' proof, w2: the world, T: the left side's letter, (by rw [← HTW.out, HK0.out]; rfl): its proof
        have hgl0 := w2.heap.size
        obtain ⟨t2, ht2⟩ : ∃ t2, (t ++ ⟨#[10]⟩ ++ T ++ ⟨#[32, 58]⟩) = t2 := ⟨_, rfl⟩
        have hb2 : bl t2 = Rd.TT X (stOf n2 S) (row8 NN XX) k ++ Rd.headT X (stOf n2 S) k := by
          rw [← ht2]
          (simp only [bl_append, HTX.out, ← HTW.out, bl_str]; unfold Rd.headT; rw [if_pos HK0.out]; simp only [List.append_assoc]; rfl)
        rw [ht2]
        have ht2s : t2.size ≤ 2 + 31 * k + 7 := by
          rw [← bl_length, hb2, List.length_append]
          have q1 := Rd.TT_len X (stOf n2 S) (row8 NN XX) (row8_len NN XX) k
          have q2 := Rd.headT_len X (stOf n2 S) k
          omega
        have HLL := Lib.hid (show str (Rd.wd (Rd.lf X (stOf n2 S) k)) = T from (by rw [← HTW.out, HK0.out]; rfl))
        have HT2 := Lib.hid hb2
        clear ht2 hb2
        go_wp2_with fail
        have hat3 := At.new w2 30 #[.string T, .slice none 0 0, .string ⟨#[]⟩, .string ⟨#[]⟩]
        have hB3 := HBW.out.alloc hsw (.cells #[.string T, .slice none 0 0, .string ⟨#[]⟩, .string ⟨#[]⟩] 30)
        obtain ⟨W3, hW3⟩ : ∃ W3, w2.alloc (.cells #[.string T, .slice none 0 0, .string ⟨#[]⟩, .string ⟨#[]⟩] 30) = W3 := ⟨_, rfl⟩
        obtain ⟨g, hge⟩ : ∃ g, w2.heap.size = g := ⟨_, rfl⟩
        rw [hW3] at hat3 hB3 ⊢
        rw [hge] at hat3 hsw ⊢
        have HAT3 := Lib.hid hat3
        have HB3 := Lib.hid hB3
        clear hat3 hB3 hW3 hge hgl0
        (try clear e1)
        (try clear e2)
        (try clear e3)
        (try clear hkp)
        (try clear hkn2)
        (try generalize decide (0 < k) = z66)
        go_loopw [8, 13] (fun s kv w' => ∃ (j : Nat) (t3 : ByteArray) (a6 : Option Addr) (s6 : Nat), j ≤ NN k ∧ kv = .int .i64 (j : Int) ∧ s = .string t3 ∧ bl t3 = Rd.TT X (stOf n2 S) (row8 NN XX) k ++ Rd.headT X (stOf n2 S) k ++ Rd.rowT (px (XX k) j) ∧ At w' g 30 #[.string T, .slice a6 j s6, .string ⟨#[]⟩, .string ⟨#[]⟩] ∧ w'.ownsRow wo.heap.size 9 1 (.slice a6 j s6) j (namesV ((px (XX k) j).map Rd.wd)) ∧ Below wo.heap.size wo w') (fun _ kv _ => NN k - (intOf kv).toNat)
        case atStart => exact ⟨0, t2, none, 0, by omega, rfl, rfl, by rw [HT2.out]; simp [px, Rd.rowT], HAT3.out, World.ownsRow_nil _ _ _ _, HB3.out⟩
        case round =>
          obtain ⟨j, t3, a6, s6, hj, rfl, rfl, ht3, hat, hown6, hbi⟩ := hrel
          have ht3s : t3.size ≤ 500 := by
            rw [← bl_length, ht3, List.length_append, List.length_append, Rd.rowT_len, px_len]
            have q1 := Rd.TT_len X (stOf n2 S) (row8 NN XX) (row8_len NN XX) k
            have q2 := Rd.headT_len X (stOf n2 S) k
            omega
          have hsi := hbi.size
          have hgi := hat.lt
          have HT3 := Lib.hid ht3
          have HAT := Lib.hid hat
          have HO6 := Lib.hid hown6
          have HBI := Lib.hid hbi
          have hc1 : wr.cell? ⟨b1, o1 + k, none⟩ = some (.slice (AA k) (NN k) (CC k)) := (hbi.cell (p := ⟨b1, o1 + k, none⟩) (by show b1 < _; omega)).trans hcell1
          clear ht3 hat hown6 hbi
          by_cases hjn : j < NN k
          · obtain ⟨b2, o2, hAA, hb2, hcc2⟩ := (HR1.out.row k hlt).each j hjn
            have hxx := (HR1.out.row k hlt).rx j hjn
            rw [hAA] at hc1
            have hb21 : b2 < wo.heap.size := by omega
            have hcwr : wo.cell? ⟨b2, o2 + j, none⟩ = some (.int .u8 (XX k j : Int)) := (HBE.out.cell (p := ⟨b2, o2 + j, none⟩) (by show b2 < _; omega)).trans hcc2
            have hc2 : wr.cell? ⟨b2, o2 + j, none⟩ = some (.int .u8 (XX k j : Int)) := (HBI.out.cell (p := ⟨b2, o2 + j, none⟩) hb21).trans hcwr
            have hc1wr : wo.cell? ⟨b1, o1 + k, none⟩ = some (.slice (some ⟨b2, o2, none⟩) (NN k) (CC k)) := by rw [hcell1, hAA]
            obtain ⟨T4, hT4⟩ : ∃ T, str (Rd.wd (XX k j)) = T := ⟨_, rfl⟩
            have hT4s : T4.size = 2 := by rw [← hT4]; rfl
            have HWE := Lib.hid (show ∀ w : World, Calls Tryd.prog 7 #[.int .u8 (XX k j : Int)] w fun e w' => e = .returned (.string T4) ∧ ∃ n, w' = w.drewN n from fun w => hT4 ▸ word6_any (XX k j) hxx w)
            have HT4 := Lib.hid hT4
            have HC1 := Lib.hid hc1wr
            have hji : (j : Int) < (NN k : Int) := by omega
            have hj0 : (0 : Int) ≤ (j : Int) := by omega
            have l6 : (⟨#[32]⟩ : ByteArray).size = 1 := rfl
            clear hAA hcc2 hxx hT4 hc1wr
            go_wp2_with fail
            refine (HWE.out _).mono ?_
            rintro e w4 ⟨rfl, q4, hq4⟩
            have hb4 : Below wr.heap.size wr w4 := hq4 ▸ below_drewN (Below.refl _ _) q4
            have hB4 := HBI.out.trans (hb4.mono hsi)
            have hat4 := HAT.out.below hb4 hgi
            have hO4 := own_stay HO6.out (Stay.below hb4)
            have hs4 := hb4.size
            have hcc5 : w4.cell? ⟨b1, o1 + k, none⟩ = some (.slice (some ⟨b2, o2, none⟩) (NN k) (CC k)) ∧ w4.cell? ⟨b2, o2 + j, none⟩ = some (.int .u8 (XX k j : Int)) := ⟨(hB4.cell (p := ⟨b1, o1 + k, none⟩) (by show b1 < _; omega)).trans HC1.out, (hB4.cell (p := ⟨b2, o2 + j, none⟩) hb21).trans hcwr⟩
            have HATX := Lib.hid (show ∀ w', Below w4.heap.size w4 w' → At w' g 30 #[.string T, .slice a6 j s6, .string ⟨#[]⟩, .string ⟨#[]⟩] from fun w' hb => hat4.below hb hat4.lt)
            have HOX := Lib.hid (show ∀ w', Below w4.heap.size w4 w' → w'.ownsRow wo.heap.size 9 1 (.slice a6 j s6) j (namesV ((px (XX k) j).map Rd.wd)) from fun w' hb => own_stay hO4 (Stay.below hb))
            have KEEP := Lib.hid (show ∀ w', Below wo.heap.size wo w' → (w'.cell? ⟨b1, o1 + k, none⟩ = some (.slice (some ⟨b2, o2, none⟩) (NN k) (CC k)) ∧ w'.cell? ⟨b2, o2 + j, none⟩ = some (.int .u8 (XX k j : Int))) from fun w' hb => ⟨(hb.cell (p := ⟨b1, o1 + k, none⟩) (by show b1 < _; omega)).trans HC1.out, (hb.cell (p := ⟨b2, o2 + j, none⟩) hb21).trans hcwr⟩)
            have HB4 := Lib.hid hB4
            have x1 := hat4.cell 1
            have xf := hat4.frozen
            simp only [List.getElem?_toArray, List.getElem?_cons_zero, List.getElem?_cons_succ] at x1
            have hgl4 := hat4.lt
            have x1a : ∀ o, (w4.alloc o).cell? ⟨g, 1, none⟩ = some (.slice a6 j s6) := fun o => by
              have := (hat4.alloc o).cell 1
              simpa only [List.getElem?_toArray, List.getElem?_cons_zero, List.getElem?_cons_succ] using this
            obtain ⟨y1, y2⟩ := id hcc5
            have hc3 : j + 1 ≤ maxLen := by unfold maxLen; omega
            have hc4 : (j + 1) * 16 ≤ 140737488355328 := by omega
            have hle4 : wo.heap.size ≤ w4.heap.size := hB4.size
            clear hb4 hB4 hat4 hO4 hcwr hc1 hc2 hq4
            go_wp2_with fail
            go_region_law (first
              | (refine step_append_own3 (by rfl) _ _ 28 rfl wo.heap.size 9 i1 _ 1 16 Tryd.underlying28 hi1 hy0 hy1 hy2 rfl (by decide) _ j (namesV ((px (XX k) j).map Rd.wd)) rfl (HOX.out _ (hb5.alloc hle5 _)) _ 1 1 [.string T4] rfl rfl (cells_new _ _ _) (by simp [Value.oneCell']) hc3 hc4 (by simp; omega) ?_
                 intro v6 w6 hown6 hg6 hn6
                 have hA6 := At.grown (HATX.out _ (hb5.alloc hle5 _)) hg6 (fun e => own_apart (HOX.out w4 (Below.refl _ _)) (HATX.out w4 (Below.refl _ _)) (by decide) e.symm)
                 have z1 := hA6.cell 1
                 have zf := hA6.frozen
                 simp only [List.getElem?_toArray, List.getElem?_cons_zero, List.getElem?_cons_succ] at z1
                 have hB6 : Below wo.heap.size wo w6 := Below.grown (HB4.out.trans (Below.mono (hb5.alloc hle5 _) hle4)) hg6 (by simp; omega) (fun j hj => (own_lt (HOX.out w4 (Below.refl _ _)) j hj).1)
                 have hgle : wo.heap.size ≤ g := hsw
                 obtain ⟨a7, s7, rfl⟩ := own_form hown6)
              | (go_simp
                 go_at_call 7
                 refine Calls.mono (HWE.out _) ?_
                 rintro e w5 ⟨rfl, q5, hq5⟩
                 have hb5 : Below w4.heap.size w4 w5 := by rw [hq5]; exact below_drewN (below_drew (Below.refl _ _)) _
                 clear hq5
                 have hle5 := hb5.size
                 have hle6 : wo.heap.size ≤ w5.heap.size := Nat.le_trans hle4 hle5
                 have hcc7 := KEEP.out w5 (HB4.out.trans (Below.mono hb5 hle4))
                 have x5 := (HATX.out w5 hb5).cell 1
                 have x5a : ∀ o, (w5.alloc o).cell? ⟨g, 1, none⟩ = some (.slice a6 j s6) := fun o => by
                   have := ((HATX.out w5 hb5).alloc o).cell 1
                   simpa only [List.getElem?_toArray, List.getElem?_cons_zero, List.getElem?_cons_succ] using this
                 simp only [List.getElem?_toArray, List.getElem?_cons_zero, List.getElem?_cons_succ] at x5
                 dsimp only))
            all_goals
              have HA6 := Lib.hid hA6
              have HN6 := Lib.hid hown6
              have HB6 := Lib.hid hB6
              clear hA6 hown6 hB6 hg6 hn6
              go_wp2_with fail
              go_roundw
              case rel =>
                refine ⟨j + 1, _, a7, s7, by omega, by go_num, rfl, ?_, ?_, ?_, Below.setCell HB6.out hgle _⟩
                · rw [bl_append, bl_append, HT3.out, ← HT4.out, px_succ, Rd.rowT_snoc, bl_str]
                  simp only [List.append_assoc]
                  rfl
                · have := HA6.out.set 1 (.slice a7 (j + 1) s7)
                  simpa using this
                · have h := own_stay HN6.out (Stay.far HA6.out (by decide) (grown_set (grown_refl _ _) 1 (.slice a7 (j + 1) s7)))
                  rw [px_succ, List.map_append, List.map_cons, List.map_nil, namesV_snoc, HT4.out]
                  exact h
              case measure => simp [intOf]; omega
          · obtain rfl : j = NN k := by omega
            have x0 := HAT.out.cell 0
            have x1 := HAT.out.cell 1
            have x2 := HAT.out.cell 2
            have x3 := HAT.out.cell 3
            simp only [List.getElem?_toArray, List.getElem?_cons_zero, List.getElem?_cons_succ] at x0 x1 x2 x3
            have HO9 := Lib.hid (own_stay HOWN.out (Stay.below HBI.out))
            have hs9 : w1.heap.size ≤ wr.heap.size := by omega
            have hc3 : k + 1 ≤ maxLen := by unfold maxLen; omega
            have hc4 : (k + 1) * 72 ≤ 140737488355328 := by omega
            have HBB := Lib.hid (HBE.out.trans (HBI.out.mono hsz))
            have HNN := Lib.hid (show ∀ p ∈ ql, Nms wr p.2 p.1.right from fun p hp => (HNM.out p hp).stay (Stay.below HBI.out))
            go_wp2_with (at_builtin; refine wpList_append_own2 _ rfl (.tmp 111) (.tmp 113) 26 rfl w1.heap.size 30 i0 _ 4 72 Tryd.underlying26 hi hz0 hz1 hz2 rfl (by decide) _ _ _ rfl (HO9.out.alloc _) ⟨wr.heap.size, 0, none⟩ 1 1 [.string T, .slice a6 (NN k) s6, .string ⟨#[]⟩, .string ⟨#[]⟩] rfl rfl (cells_new _ _ _) (by simp [Value.oneCell']) hc3 hc4 (by simp; omega) ?_)
            intro v' w5 hown5 hg5 hn5
            obtain ⟨a7, s7, rfl⟩ := own_form hown5
            have HN5 := Lib.hid hown5
            have HG5 := Lib.hid hg5
            clear hown5 hg5 hn5
            go_wp2_with fail
            go_roundw
            case rel =>
              have hst5 : Stay 9 wr w5 := (Stay.below ((Below.refl _ _).alloc (Nat.le_refl _) _)).trans (Stay.own (HO9.out.alloc _) (by decide) HG5.out)
              refine ⟨k + 1, t3, T, a7, s7, ql ++ [(Rd.ruleOf X (stOf n2 S) (row8 NN XX) k, .slice a6 (NN k) s6)], by omega, by go_num, rfl, ?_, rfl, fun _ => HLL.out, by go_num, ?_, ?_, ?_, ?_⟩
              · rw [HT3.out, Rd.TT, HROW.out, List.append_assoc]
              · rw [rulesV_snoc, show ruleCells (Rd.ruleOf X (stOf n2 S) (row8 NN XX) k, .slice a6 (NN k) s6) = [.string T, .slice a6 (NN k) s6, .string ⟨#[]⟩, .string ⟨#[]⟩] from by unfold ruleCells Rd.ruleOf; rw [← HLL.out]; rfl]
                exact HN5.out
              · rw [List.map_append, HQL.out]; rfl
              · intro p hp
                rcases List.mem_append.1 hp with h | h
                · exact (HNN.out p h).stay hst5
                · simp only [List.mem_cons, List.not_mem_nil, or_false] at h
                  subst h
                  refine ⟨a6, s6, ?_, ?_⟩
                  · show Value.slice a6 (NN k) s6 = Value.slice a6 ((row8 NN XX k).map Rd.wd).length s6
                    rw [HROW.out, List.length_map, px_len]
                  · show Lie w5 9 a6 (namesV ((row8 NN XX k).map Rd.wd))
                    rw [HROW.out]
                    exact (Lie.own HO6.out).stay hst5
              · exact Below.grown (HBB.out.alloc hs9 _) HG5.out (by simp; omega) (fun j hj => (own_lt (HO9.out) j hj).1)
            case measure => simp [intOf]; omega
      · have e1 : ((k : Int) == 0) = false := by rw [beq_eq_false_iff_ne]; omega
        have e2 : (k == 0) = false := by rw [beq_eq_false_iff_ne]; omega
        have hkp : (0 : Int) < (k : Int) := by omega
        by_cases hst : k < n2 ∧ S k = true
        · obtain ⟨hk2, hsk⟩ := hst
          obtain ⟨b3, o3, hA, hb3, hcc3⟩ := HS1.out.each k hk2
          subst hA
          have hcell3 : wo.cell? ⟨b3, o3 + k, none⟩ = some (.bool (S k)) := (HBE.out.cell (p := ⟨b3, o3 + k, none⟩) (by show b3 < _; omega)).trans hcc3
          rw [hsk] at hcell3
          have hkn2 : (k : Int) < (n2 : Int) := by omega
          have HSK := Lib.hid (show stOf n2 S k = true by simp [stOf, hk2, hsk])
          have HK0 := Lib.hid hk00
          clear hk00 hsk
          go_wp2_with fail
          refine (HWD.out _).mono ?_
          rintro e w2 ⟨rfl, q2, hq2⟩
          have hbw : Below wo.heap.size wo w2 := hq2 ▸ below_drewN (Below.refl _ _) q2
          have HBW := Lib.hid hbw
          have hsw := hbw.size
          clear hbw hq2
          go_wp2_with fail
          -- (t ++ ⟨#[32, 59]⟩ ++ ⟨#[10]⟩ ++ T ++ ⟨#[32, 58]⟩): the text, (simp only [bl_append, HTX.out, ← HTW.out, bl_str]; unfold Rd.headT; rw [if_neg HK0.out, if_pos HSK.out]; simp only [List.append_assoc]; rfl): its bytes' proof, w2: the world, T: the left side's letter, (by rw [← HTW.out, lf_start _ _ HK0.out HSK.out]): its proof
          have hgl0 := w2.heap.size
          obtain ⟨t2, ht2⟩ : ∃ t2, (t ++ ⟨#[32, 59]⟩ ++ ⟨#[10]⟩ ++ T ++ ⟨#[32, 58]⟩) = t2 := ⟨_, rfl⟩
          have hb2 : bl t2 = Rd.TT X (stOf n2 S) (row8 NN XX) k ++ Rd.headT X (stOf n2 S) k := by
            rw [← ht2]
            (simp only [bl_append, HTX.out, ← HTW.out, bl_str]; unfold Rd.headT; rw [if_neg HK0.out, if_pos HSK.out]; simp only [List.append_assoc]; rfl)
          rw [ht2]
          have ht2s : t2.size ≤ 2 + 31 * k + 7 := by
            rw [← bl_length, hb2, List.length_append]
            have q1 := Rd.TT_len X (stOf n2 S) (row8 NN XX) (row8_len NN XX) k
            have q2 := Rd.headT_len X (stOf n2 S) k
            omega
          have HLL := Lib.hid (show str (Rd.wd (Rd.lf X (stOf n2 S) k)) = T from (by rw [← HTW.out, lf_start _ _ HK0.out HSK.out]))
          have HT2 := Lib.hid hb2
          clear ht2 hb2
          go_wp2_with fail
          have hat3 := At.new w2 30 #[.string T, .slice none 0 0, .string ⟨#[]⟩, .string ⟨#[]⟩]
          have hB3 := HBW.out.alloc hsw (.cells #[.string T, .slice none 0 0, .string ⟨#[]⟩, .string ⟨#[]⟩] 30)
          obtain ⟨W3, hW3⟩ : ∃ W3, w2.alloc (.cells #[.string T, .slice none 0 0, .string ⟨#[]⟩, .string ⟨#[]⟩] 30) = W3 := ⟨_, rfl⟩
          obtain ⟨g, hge⟩ : ∃ g, w2.heap.size = g := ⟨_, rfl⟩
          rw [hW3] at hat3 hB3 ⊢
          rw [hge] at hat3 hsw ⊢
          have HAT3 := Lib.hid hat3
          have HB3 := Lib.hid hB3
          clear hat3 hB3 hW3 hge hgl0
          (try clear e1)
          (try clear e2)
          (try clear e3)
          (try clear hkp)
          (try clear hkn2)
          (try generalize decide (0 < k) = z66)
          go_loopw [8, 13] (fun s kv w' => ∃ (j : Nat) (t3 : ByteArray) (a6 : Option Addr) (s6 : Nat), j ≤ NN k ∧ kv = .int .i64 (j : Int) ∧ s = .string t3 ∧ bl t3 = Rd.TT X (stOf n2 S) (row8 NN XX) k ++ Rd.headT X (stOf n2 S) k ++ Rd.rowT (px (XX k) j) ∧ At w' g 30 #[.string T, .slice a6 j s6, .string ⟨#[]⟩, .string ⟨#[]⟩] ∧ w'.ownsRow wo.heap.size 9 1 (.slice a6 j s6) j (namesV ((px (XX k) j).map Rd.wd)) ∧ Below wo.heap.size wo w') (fun _ kv _ => NN k - (intOf kv).toNat)
          case atStart => exact ⟨0, t2, none, 0, by omega, rfl, rfl, by rw [HT2.out]; simp [px, Rd.rowT], HAT3.out, World.ownsRow_nil _ _ _ _, HB3.out⟩
          case round =>
            obtain ⟨j, t3, a6, s6, hj, rfl, rfl, ht3, hat, hown6, hbi⟩ := hrel
            have ht3s : t3.size ≤ 500 := by
              rw [← bl_length, ht3, List.length_append, List.length_append, Rd.rowT_len, px_len]
              have q1 := Rd.TT_len X (stOf n2 S) (row8 NN XX) (row8_len NN XX) k
              have q2 := Rd.headT_len X (stOf n2 S) k
              omega
            have hsi := hbi.size
            have hgi := hat.lt
            have HT3 := Lib.hid ht3
            have HAT := Lib.hid hat
            have HO6 := Lib.hid hown6
            have HBI := Lib.hid hbi
            have hc1 : wr.cell? ⟨b1, o1 + k, none⟩ = some (.slice (AA k) (NN k) (CC k)) := (hbi.cell (p := ⟨b1, o1 + k, none⟩) (by show b1 < _; omega)).trans hcell1
            clear ht3 hat hown6 hbi
            by_cases hjn : j < NN k
            · obtain ⟨b2, o2, hAA, hb2, hcc2⟩ := (HR1.out.row k hlt).each j hjn
              have hxx := (HR1.out.row k hlt).rx j hjn
              rw [hAA] at hc1
              have hb21 : b2 < wo.heap.size := by omega
              have hcwr : wo.cell? ⟨b2, o2 + j, none⟩ = some (.int .u8 (XX k j : Int)) := (HBE.out.cell (p := ⟨b2, o2 + j, none⟩) (by show b2 < _; omega)).trans hcc2
              have hc2 : wr.cell? ⟨b2, o2 + j, none⟩ = some (.int .u8 (XX k j : Int)) := (HBI.out.cell (p := ⟨b2, o2 + j, none⟩) hb21).trans hcwr
              have hc1wr : wo.cell? ⟨b1, o1 + k, none⟩ = some (.slice (some ⟨b2, o2, none⟩) (NN k) (CC k)) := by rw [hcell1, hAA]
              obtain ⟨T4, hT4⟩ : ∃ T, str (Rd.wd (XX k j)) = T := ⟨_, rfl⟩
              have hT4s : T4.size = 2 := by rw [← hT4]; rfl
              have HWE := Lib.hid (show ∀ w : World, Calls Tryd.prog 7 #[.int .u8 (XX k j : Int)] w fun e w' => e = .returned (.string T4) ∧ ∃ n, w' = w.drewN n from fun w => hT4 ▸ word6_any (XX k j) hxx w)
              have HT4 := Lib.hid hT4
              have HC1 := Lib.hid hc1wr
              have hji : (j : Int) < (NN k : Int) := by omega
              have hj0 : (0 : Int) ≤ (j : Int) := by omega
              have l6 : (⟨#[32]⟩ : ByteArray).size = 1 := rfl
              clear hAA hcc2 hxx hT4 hc1wr
              go_wp2_with fail
              refine (HWE.out _).mono ?_
              rintro e w4 ⟨rfl, q4, hq4⟩
              have hb4 : Below wr.heap.size wr w4 := hq4 ▸ below_drewN (Below.refl _ _) q4
              have hB4 := HBI.out.trans (hb4.mono hsi)
              have hat4 := HAT.out.below hb4 hgi
              have hO4 := own_stay HO6.out (Stay.below hb4)
              have hs4 := hb4.size
              have hcc5 : w4.cell? ⟨b1, o1 + k, none⟩ = some (.slice (some ⟨b2, o2, none⟩) (NN k) (CC k)) ∧ w4.cell? ⟨b2, o2 + j, none⟩ = some (.int .u8 (XX k j : Int)) := ⟨(hB4.cell (p := ⟨b1, o1 + k, none⟩) (by show b1 < _; omega)).trans HC1.out, (hB4.cell (p := ⟨b2, o2 + j, none⟩) hb21).trans hcwr⟩
              have HATX := Lib.hid (show ∀ w', Below w4.heap.size w4 w' → At w' g 30 #[.string T, .slice a6 j s6, .string ⟨#[]⟩, .string ⟨#[]⟩] from fun w' hb => hat4.below hb hat4.lt)
              have HOX := Lib.hid (show ∀ w', Below w4.heap.size w4 w' → w'.ownsRow wo.heap.size 9 1 (.slice a6 j s6) j (namesV ((px (XX k) j).map Rd.wd)) from fun w' hb => own_stay hO4 (Stay.below hb))
              have KEEP := Lib.hid (show ∀ w', Below wo.heap.size wo w' → (w'.cell? ⟨b1, o1 + k, none⟩ = some (.slice (some ⟨b2, o2, none⟩) (NN k) (CC k)) ∧ w'.cell? ⟨b2, o2 + j, none⟩ = some (.int .u8 (XX k j : Int))) from fun w' hb => ⟨(hb.cell (p := ⟨b1, o1 + k, none⟩) (by show b1 < _; omega)).trans HC1.out, (hb.cell (p := ⟨b2, o2 + j, none⟩) hb21).trans hcwr⟩)
              have HB4 := Lib.hid hB4
              have x1 := hat4.cell 1
              have xf := hat4.frozen
              simp only [List.getElem?_toArray, List.getElem?_cons_zero, List.getElem?_cons_succ] at x1
              have hgl4 := hat4.lt
              have x1a : ∀ o, (w4.alloc o).cell? ⟨g, 1, none⟩ = some (.slice a6 j s6) := fun o => by
                have := (hat4.alloc o).cell 1
                simpa only [List.getElem?_toArray, List.getElem?_cons_zero, List.getElem?_cons_succ] using this
              obtain ⟨y1, y2⟩ := id hcc5
              have hc3 : j + 1 ≤ maxLen := by unfold maxLen; omega
              have hc4 : (j + 1) * 16 ≤ 140737488355328 := by omega
              have hle4 : wo.heap.size ≤ w4.heap.size := hB4.size
              clear hb4 hB4 hat4 hO4 hcwr hc1 hc2 hq4
              go_wp2_with fail
              go_region_law (first
                | (refine step_append_own3 (by rfl) _ _ 28 rfl wo.heap.size 9 i1 _ 1 16 Tryd.underlying28 hi1 hy0 hy1 hy2 rfl (by decide) _ j (namesV ((px (XX k) j).map Rd.wd)) rfl (HOX.out _ (hb5.alloc hle5 _)) _ 1 1 [.string T4] rfl rfl (cells_new _ _ _) (by simp [Value.oneCell']) hc3 hc4 (by simp; omega) ?_
                   intro v6 w6 hown6 hg6 hn6
                   have hA6 := At.grown (HATX.out _ (hb5.alloc hle5 _)) hg6 (fun e => own_apart (HOX.out w4 (Below.refl _ _)) (HATX.out w4 (Below.refl _ _)) (by decide) e.symm)
                   have z1 := hA6.cell 1
                   have zf := hA6.frozen
                   simp only [List.getElem?_toArray, List.getElem?_cons_zero, List.getElem?_cons_succ] at z1
                   have hB6 : Below wo.heap.size wo w6 := Below.grown (HB4.out.trans (Below.mono (hb5.alloc hle5 _) hle4)) hg6 (by simp; omega) (fun j hj => (own_lt (HOX.out w4 (Below.refl _ _)) j hj).1)
                   have hgle : wo.heap.size ≤ g := hsw
                   obtain ⟨a7, s7, rfl⟩ := own_form hown6)
                | (go_simp
                   go_at_call 7
                   refine Calls.mono (HWE.out _) ?_
                   rintro e w5 ⟨rfl, q5, hq5⟩
                   have hb5 : Below w4.heap.size w4 w5 := by rw [hq5]; exact below_drewN (below_drew (Below.refl _ _)) _
                   clear hq5
                   have hle5 := hb5.size
                   have hle6 : wo.heap.size ≤ w5.heap.size := Nat.le_trans hle4 hle5
                   have hcc7 := KEEP.out w5 (HB4.out.trans (Below.mono hb5 hle4))
                   have x5 := (HATX.out w5 hb5).cell 1
                   have x5a : ∀ o, (w5.alloc o).cell? ⟨g, 1, none⟩ = some (.slice a6 j s6) := fun o => by
                     have := ((HATX.out w5 hb5).alloc o).cell 1
                     simpa only [List.getElem?_toArray, List.getElem?_cons_zero, List.getElem?_cons_succ] using this
                   simp only [List.getElem?_toArray, List.getElem?_cons_zero, List.getElem?_cons_succ] at x5
                   dsimp only))
              all_goals
                have HA6 := Lib.hid hA6
                have HN6 := Lib.hid hown6
                have HB6 := Lib.hid hB6
                clear hA6 hown6 hB6 hg6 hn6
                go_wp2_with fail
                go_roundw
                case rel =>
                  refine ⟨j + 1, _, a7, s7, by omega, by go_num, rfl, ?_, ?_, ?_, Below.setCell HB6.out hgle _⟩
                  · rw [bl_append, bl_append, HT3.out, ← HT4.out, px_succ, Rd.rowT_snoc, bl_str]
                    simp only [List.append_assoc]
                    rfl
                  · have := HA6.out.set 1 (.slice a7 (j + 1) s7)
                    simpa using this
                  · have h := own_stay HN6.out (Stay.far HA6.out (by decide) (grown_set (grown_refl _ _) 1 (.slice a7 (j + 1) s7)))
                    rw [px_succ, List.map_append, List.map_cons, List.map_nil, namesV_snoc, HT4.out]
                    exact h
                case measure => simp [intOf]; omega
            · obtain rfl : j = NN k := by omega
              have x0 := HAT.out.cell 0
              have x1 := HAT.out.cell 1
              have x2 := HAT.out.cell 2
              have x3 := HAT.out.cell 3
              simp only [List.getElem?_toArray, List.getElem?_cons_zero, List.getElem?_cons_succ] at x0 x1 x2 x3
              have HO9 := Lib.hid (own_stay HOWN.out (Stay.below HBI.out))
              have hs9 : w1.heap.size ≤ wr.heap.size := by omega
              have hc3 : k + 1 ≤ maxLen := by unfold maxLen; omega
              have hc4 : (k + 1) * 72 ≤ 140737488355328 := by omega
              have HBB := Lib.hid (HBE.out.trans (HBI.out.mono hsz))
              have HNN := Lib.hid (show ∀ p ∈ ql, Nms wr p.2 p.1.right from fun p hp => (HNM.out p hp).stay (Stay.below HBI.out))
              go_wp2_with (at_builtin; refine wpList_append_own2 _ rfl (.tmp 111) (.tmp 113) 26 rfl w1.heap.size 30 i0 _ 4 72 Tryd.underlying26 hi hz0 hz1 hz2 rfl (by decide) _ _ _ rfl (HO9.out.alloc _) ⟨wr.heap.size, 0, none⟩ 1 1 [.string T, .slice a6 (NN k) s6, .string ⟨#[]⟩, .string ⟨#[]⟩] rfl rfl (cells_new _ _ _) (by simp [Value.oneCell']) hc3 hc4 (by simp; omega) ?_)
              intro v' w5 hown5 hg5 hn5
              obtain ⟨a7, s7, rfl⟩ := own_form hown5
              have HN5 := Lib.hid hown5
              have HG5 := Lib.hid hg5
              clear hown5 hg5 hn5
              go_wp2_with fail
              go_roundw
              case rel =>
                have hst5 : Stay 9 wr w5 := (Stay.below ((Below.refl _ _).alloc (Nat.le_refl _) _)).trans (Stay.own (HO9.out.alloc _) (by decide) HG5.out)
                refine ⟨k + 1, t3, T, a7, s7, ql ++ [(Rd.ruleOf X (stOf n2 S) (row8 NN XX) k, .slice a6 (NN k) s6)], by omega, by go_num, rfl, ?_, rfl, fun _ => HLL.out, by go_num, ?_, ?_, ?_, ?_⟩
                · rw [HT3.out, Rd.TT, HROW.out, List.append_assoc]
                · rw [rulesV_snoc, show ruleCells (Rd.ruleOf X (stOf n2 S) (row8 NN XX) k, .slice a6 (NN k) s6) = [.string T, .slice a6 (NN k) s6, .string ⟨#[]⟩, .string ⟨#[]⟩] from by unfold ruleCells Rd.ruleOf; rw [← HLL.out]; rfl]
                  exact HN5.out
                · rw [List.map_append, HQL.out]; rfl
                · intro p hp
                  rcases List.mem_append.1 hp with h | h
                  · exact (HNN.out p h).stay hst5
                  · simp only [List.mem_cons, List.not_mem_nil, or_false] at h
                    subst h
                    refine ⟨a6, s6, ?_, ?_⟩
                    · show Value.slice a6 (NN k) s6 = Value.slice a6 ((row8 NN XX k).map Rd.wd).length s6
                      rw [HROW.out, List.length_map, px_len]
                    · show Lie w5 9 a6 (namesV ((row8 NN XX k).map Rd.wd))
                      rw [HROW.out]
                      exact (Lie.own HO6.out).stay hst5
                · exact Below.grown (HBB.out.alloc hs9 _) HG5.out (by simp; omega) (fun j hj => (own_lt (HO9.out) j hj).1)
              case measure => simp [intOf]; omega
        · by_cases hk2 : k < n2
          · have hsk : S k = false := by
              cases h : S k with
              | false => rfl
              | true => exact absurd ⟨hk2, h⟩ hst
            obtain ⟨b3, o3, hA, hb3, hcc3⟩ := HS1.out.each k hk2
            subst hA
            have hcell3 : wo.cell? ⟨b3, o3 + k, none⟩ = some (.bool (S k)) := (HBE.out.cell (p := ⟨b3, o3 + k, none⟩) (by show b3 < _; omega)).trans hcc3
            rw [hsk] at hcell3
            have hkn2 : (k : Int) < (n2 : Int) := by omega
            have HSK := Lib.hid (show stOf n2 S k = false by simp [stOf, hk2, hsk])
            have HK0 := Lib.hid hk00
            clear hk00 hsk hst
            go_wp2_with fail
            obtain ⟨w2, hw2⟩ : ∃ w2, w2 = wo := ⟨wo, rfl⟩
            have HBW := Lib.hid (show Below wo.heap.size wo w2 by rw [hw2]; exact Below.refl _ _)
            have hsw : wo.heap.size ≤ w2.heap.size := by rw [hw2]; exact Nat.le_refl _
            rw [← hw2]
            clear hw2
            -- (t ++ ⟨#[32, 124]⟩): the text, (simp only [bl_append, HTX.out]; unfold Rd.headT; rw [if_neg HK0.out, if_neg (by rw [HSK.out]; decide)]; rfl): its bytes' proof, w2: the world, lt: the left side's letter, (by rw [← HLT.out HK0.out, lf_bar _ _ HK0.out HSK.out]): its proof
            have hgl0 := w2.heap.size
            obtain ⟨t2, ht2⟩ : ∃ t2, (t ++ ⟨#[32, 124]⟩) = t2 := ⟨_, rfl⟩
            have hb2 : bl t2 = Rd.TT X (stOf n2 S) (row8 NN XX) k ++ Rd.headT X (stOf n2 S) k := by
              rw [← ht2]
              (simp only [bl_append, HTX.out]; unfold Rd.headT; rw [if_neg HK0.out, if_neg (by rw [HSK.out]; decide)]; rfl)
            rw [ht2]
            have ht2s : t2.size ≤ 2 + 31 * k + 7 := by
              rw [← bl_length, hb2, List.length_append]
              have q1 := Rd.TT_len X (stOf n2 S) (row8 NN XX) (row8_len NN XX) k
              have q2 := Rd.headT_len X (stOf n2 S) k
              omega
            have HLL := Lib.hid (show str (Rd.wd (Rd.lf X (stOf n2 S) k)) = lt from (by rw [← HLT.out HK0.out, lf_bar _ _ HK0.out HSK.out]))
            have HT2 := Lib.hid hb2
            clear ht2 hb2
            go_wp2_with fail
            have hat3 := At.new w2 30 #[.string lt, .slice none 0 0, .string ⟨#[]⟩, .string ⟨#[]⟩]
            have hB3 := HBW.out.alloc hsw (.cells #[.string lt, .slice none 0 0, .string ⟨#[]⟩, .string ⟨#[]⟩] 30)
            obtain ⟨W3, hW3⟩ : ∃ W3, w2.alloc (.cells #[.string lt, .slice none 0 0, .string ⟨#[]⟩, .string ⟨#[]⟩] 30) = W3 := ⟨_, rfl⟩
            obtain ⟨g, hge⟩ : ∃ g, w2.heap.size = g := ⟨_, rfl⟩
            rw [hW3] at hat3 hB3 ⊢
            rw [hge] at hat3 hsw ⊢
            have HAT3 := Lib.hid hat3
            have HB3 := Lib.hid hB3
            clear hat3 hB3 hW3 hge hgl0
            (try clear e1)
            (try clear e2)
            (try clear e3)
            (try clear hkp)
            (try clear hkn2)
            (try generalize decide (0 < k) = z66)
            go_loopw [8, 13] (fun s kv w' => ∃ (j : Nat) (t3 : ByteArray) (a6 : Option Addr) (s6 : Nat), j ≤ NN k ∧ kv = .int .i64 (j : Int) ∧ s = .string t3 ∧ bl t3 = Rd.TT X (stOf n2 S) (row8 NN XX) k ++ Rd.headT X (stOf n2 S) k ++ Rd.rowT (px (XX k) j) ∧ At w' g 30 #[.string lt, .slice a6 j s6, .string ⟨#[]⟩, .string ⟨#[]⟩] ∧ w'.ownsRow wo.heap.size 9 1 (.slice a6 j s6) j (namesV ((px (XX k) j).map Rd.wd)) ∧ Below wo.heap.size wo w') (fun _ kv _ => NN k - (intOf kv).toNat)
            case atStart => exact ⟨0, t2, none, 0, by omega, rfl, rfl, by rw [HT2.out]; simp [px, Rd.rowT], HAT3.out, World.ownsRow_nil _ _ _ _, HB3.out⟩
            case round =>
              obtain ⟨j, t3, a6, s6, hj, rfl, rfl, ht3, hat, hown6, hbi⟩ := hrel
              have ht3s : t3.size ≤ 500 := by
                rw [← bl_length, ht3, List.length_append, List.length_append, Rd.rowT_len, px_len]
                have q1 := Rd.TT_len X (stOf n2 S) (row8 NN XX) (row8_len NN XX) k
                have q2 := Rd.headT_len X (stOf n2 S) k
                omega
              have hsi := hbi.size
              have hgi := hat.lt
              have HT3 := Lib.hid ht3
              have HAT := Lib.hid hat
              have HO6 := Lib.hid hown6
              have HBI := Lib.hid hbi
              have hc1 : wr.cell? ⟨b1, o1 + k, none⟩ = some (.slice (AA k) (NN k) (CC k)) := (hbi.cell (p := ⟨b1, o1 + k, none⟩) (by show b1 < _; omega)).trans hcell1
              clear ht3 hat hown6 hbi
              by_cases hjn : j < NN k
              · obtain ⟨b2, o2, hAA, hb2, hcc2⟩ := (HR1.out.row k hlt).each j hjn
                have hxx := (HR1.out.row k hlt).rx j hjn
                rw [hAA] at hc1
                have hb21 : b2 < wo.heap.size := by omega
                have hcwr : wo.cell? ⟨b2, o2 + j, none⟩ = some (.int .u8 (XX k j : Int)) := (HBE.out.cell (p := ⟨b2, o2 + j, none⟩) (by show b2 < _; omega)).trans hcc2
                have hc2 : wr.cell? ⟨b2, o2 + j, none⟩ = some (.int .u8 (XX k j : Int)) := (HBI.out.cell (p := ⟨b2, o2 + j, none⟩) hb21).trans hcwr
                have hc1wr : wo.cell? ⟨b1, o1 + k, none⟩ = some (.slice (some ⟨b2, o2, none⟩) (NN k) (CC k)) := by rw [hcell1, hAA]
                obtain ⟨T4, hT4⟩ : ∃ T, str (Rd.wd (XX k j)) = T := ⟨_, rfl⟩
                have hT4s : T4.size = 2 := by rw [← hT4]; rfl
                have HWE := Lib.hid (show ∀ w : World, Calls Tryd.prog 7 #[.int .u8 (XX k j : Int)] w fun e w' => e = .returned (.string T4) ∧ ∃ n, w' = w.drewN n from fun w => hT4 ▸ word6_any (XX k j) hxx w)
                have HT4 := Lib.hid hT4
                have HC1 := Lib.hid hc1wr
                have hji : (j : Int) < (NN k : Int) := by omega
                have hj0 : (0 : Int) ≤ (j : Int) := by omega
                have l6 : (⟨#[32]⟩ : ByteArray).size = 1 := rfl
                clear hAA hcc2 hxx hT4 hc1wr
                go_wp2_with fail
                refine (HWE.out _).mono ?_
                rintro e w4 ⟨rfl, q4, hq4⟩
                have hb4 : Below wr.heap.size wr w4 := hq4 ▸ below_drewN (Below.refl _ _) q4
                have hB4 := HBI.out.trans (hb4.mono hsi)
                have hat4 := HAT.out.below hb4 hgi
                have hO4 := own_stay HO6.out (Stay.below hb4)
                have hs4 := hb4.size
                have hcc5 : w4.cell? ⟨b1, o1 + k, none⟩ = some (.slice (some ⟨b2, o2, none⟩) (NN k) (CC k)) ∧ w4.cell? ⟨b2, o2 + j, none⟩ = some (.int .u8 (XX k j : Int)) := ⟨(hB4.cell (p := ⟨b1, o1 + k, none⟩) (by show b1 < _; omega)).trans HC1.out, (hB4.cell (p := ⟨b2, o2 + j, none⟩) hb21).trans hcwr⟩
                have HATX := Lib.hid (show ∀ w', Below w4.heap.size w4 w' → At w' g 30 #[.string lt, .slice a6 j s6, .string ⟨#[]⟩, .string ⟨#[]⟩] from fun w' hb => hat4.below hb hat4.lt)
                have HOX := Lib.hid (show ∀ w', Below w4.heap.size w4 w' → w'.ownsRow wo.heap.size 9 1 (.slice a6 j s6) j (namesV ((px (XX k) j).map Rd.wd)) from fun w' hb => own_stay hO4 (Stay.below hb))
                have KEEP := Lib.hid (show ∀ w', Below wo.heap.size wo w' → (w'.cell? ⟨b1, o1 + k, none⟩ = some (.slice (some ⟨b2, o2, none⟩) (NN k) (CC k)) ∧ w'.cell? ⟨b2, o2 + j, none⟩ = some (.int .u8 (XX k j : Int))) from fun w' hb => ⟨(hb.cell (p := ⟨b1, o1 + k, none⟩) (by show b1 < _; omega)).trans HC1.out, (hb.cell (p := ⟨b2, o2 + j, none⟩) hb21).trans hcwr⟩)
                have HB4 := Lib.hid hB4
                have x1 := hat4.cell 1
                have xf := hat4.frozen
                simp only [List.getElem?_toArray, List.getElem?_cons_zero, List.getElem?_cons_succ] at x1
                have hgl4 := hat4.lt
                have x1a : ∀ o, (w4.alloc o).cell? ⟨g, 1, none⟩ = some (.slice a6 j s6) := fun o => by
                  have := (hat4.alloc o).cell 1
                  simpa only [List.getElem?_toArray, List.getElem?_cons_zero, List.getElem?_cons_succ] using this
                obtain ⟨y1, y2⟩ := id hcc5
                have hc3 : j + 1 ≤ maxLen := by unfold maxLen; omega
                have hc4 : (j + 1) * 16 ≤ 140737488355328 := by omega
                have hle4 : wo.heap.size ≤ w4.heap.size := hB4.size
                clear hb4 hB4 hat4 hO4 hcwr hc1 hc2 hq4
                go_wp2_with fail
                go_region_law (first
                  | (refine step_append_own3 (by rfl) _ _ 28 rfl wo.heap.size 9 i1 _ 1 16 Tryd.underlying28 hi1 hy0 hy1 hy2 rfl (by decide) _ j (namesV ((px (XX k) j).map Rd.wd)) rfl (HOX.out _ (hb5.alloc hle5 _)) _ 1 1 [.string T4] rfl rfl (cells_new _ _ _) (by simp [Value.oneCell']) hc3 hc4 (by simp; omega) ?_
                     intro v6 w6 hown6 hg6 hn6
                     have hA6 := At.grown (HATX.out _ (hb5.alloc hle5 _)) hg6 (fun e => own_apart (HOX.out w4 (Below.refl _ _)) (HATX.out w4 (Below.refl _ _)) (by decide) e.symm)
                     have z1 := hA6.cell 1
                     have zf := hA6.frozen
                     simp only [List.getElem?_toArray, List.getElem?_cons_zero, List.getElem?_cons_succ] at z1
                     have hB6 : Below wo.heap.size wo w6 := Below.grown (HB4.out.trans (Below.mono (hb5.alloc hle5 _) hle4)) hg6 (by simp; omega) (fun j hj => (own_lt (HOX.out w4 (Below.refl _ _)) j hj).1)
                     have hgle : wo.heap.size ≤ g := hsw
                     obtain ⟨a7, s7, rfl⟩ := own_form hown6)
                  | (go_simp
                     go_at_call 7
                     refine Calls.mono (HWE.out _) ?_
                     rintro e w5 ⟨rfl, q5, hq5⟩
                     have hb5 : Below w4.heap.size w4 w5 := by rw [hq5]; exact below_drewN (below_drew (Below.refl _ _)) _
                     clear hq5
                     have hle5 := hb5.size
                     have hle6 : wo.heap.size ≤ w5.heap.size := Nat.le_trans hle4 hle5
                     have hcc7 := KEEP.out w5 (HB4.out.trans (Below.mono hb5 hle4))
                     have x5 := (HATX.out w5 hb5).cell 1
                     have x5a : ∀ o, (w5.alloc o).cell? ⟨g, 1, none⟩ = some (.slice a6 j s6) := fun o => by
                       have := ((HATX.out w5 hb5).alloc o).cell 1
                       simpa only [List.getElem?_toArray, List.getElem?_cons_zero, List.getElem?_cons_succ] using this
                     simp only [List.getElem?_toArray, List.getElem?_cons_zero, List.getElem?_cons_succ] at x5
                     dsimp only))
                all_goals
                  have HA6 := Lib.hid hA6
                  have HN6 := Lib.hid hown6
                  have HB6 := Lib.hid hB6
                  clear hA6 hown6 hB6 hg6 hn6
                  go_wp2_with fail
                  go_roundw
                  case rel =>
                    refine ⟨j + 1, _, a7, s7, by omega, by go_num, rfl, ?_, ?_, ?_, Below.setCell HB6.out hgle _⟩
                    · rw [bl_append, bl_append, HT3.out, ← HT4.out, px_succ, Rd.rowT_snoc, bl_str]
                      simp only [List.append_assoc]
                      rfl
                    · have := HA6.out.set 1 (.slice a7 (j + 1) s7)
                      simpa using this
                    · have h := own_stay HN6.out (Stay.far HA6.out (by decide) (grown_set (grown_refl _ _) 1 (.slice a7 (j + 1) s7)))
                      rw [px_succ, List.map_append, List.map_cons, List.map_nil, namesV_snoc, HT4.out]
                      exact h
                  case measure => simp [intOf]; omega
              · obtain rfl : j = NN k := by omega
                have x0 := HAT.out.cell 0
                have x1 := HAT.out.cell 1
                have x2 := HAT.out.cell 2
                have x3 := HAT.out.cell 3
                simp only [List.getElem?_toArray, List.getElem?_cons_zero, List.getElem?_cons_succ] at x0 x1 x2 x3
                have HO9 := Lib.hid (own_stay HOWN.out (Stay.below HBI.out))
                have hs9 : w1.heap.size ≤ wr.heap.size := by omega
                have hc3 : k + 1 ≤ maxLen := by unfold maxLen; omega
                have hc4 : (k + 1) * 72 ≤ 140737488355328 := by omega
                have HBB := Lib.hid (HBE.out.trans (HBI.out.mono hsz))
                have HNN := Lib.hid (show ∀ p ∈ ql, Nms wr p.2 p.1.right from fun p hp => (HNM.out p hp).stay (Stay.below HBI.out))
                go_wp2_with (at_builtin; refine wpList_append_own2 _ rfl (.tmp 111) (.tmp 113) 26 rfl w1.heap.size 30 i0 _ 4 72 Tryd.underlying26 hi hz0 hz1 hz2 rfl (by decide) _ _ _ rfl (HO9.out.alloc _) ⟨wr.heap.size, 0, none⟩ 1 1 [.string lt, .slice a6 (NN k) s6, .string ⟨#[]⟩, .string ⟨#[]⟩] rfl rfl (cells_new _ _ _) (by simp [Value.oneCell']) hc3 hc4 (by simp; omega) ?_)
                intro v' w5 hown5 hg5 hn5
                obtain ⟨a7, s7, rfl⟩ := own_form hown5
                have HN5 := Lib.hid hown5
                have HG5 := Lib.hid hg5
                clear hown5 hg5 hn5
                go_wp2_with fail
                go_roundw
                case rel =>
                  have hst5 : Stay 9 wr w5 := (Stay.below ((Below.refl _ _).alloc (Nat.le_refl _) _)).trans (Stay.own (HO9.out.alloc _) (by decide) HG5.out)
                  refine ⟨k + 1, t3, lt, a7, s7, ql ++ [(Rd.ruleOf X (stOf n2 S) (row8 NN XX) k, .slice a6 (NN k) s6)], by omega, by go_num, rfl, ?_, rfl, fun _ => HLL.out, by go_num, ?_, ?_, ?_, ?_⟩
                  · rw [HT3.out, Rd.TT, HROW.out, List.append_assoc]
                  · rw [rulesV_snoc, show ruleCells (Rd.ruleOf X (stOf n2 S) (row8 NN XX) k, .slice a6 (NN k) s6) = [.string lt, .slice a6 (NN k) s6, .string ⟨#[]⟩, .string ⟨#[]⟩] from by unfold ruleCells Rd.ruleOf; rw [← HLL.out]; rfl]
                    exact HN5.out
                  · rw [List.map_append, HQL.out]; rfl
                  · intro p hp
                    rcases List.mem_append.1 hp with h | h
                    · exact (HNN.out p h).stay hst5
                    · simp only [List.mem_cons, List.not_mem_nil, or_false] at h
                      subst h
                      refine ⟨a6, s6, ?_, ?_⟩
                      · show Value.slice a6 (NN k) s6 = Value.slice a6 ((row8 NN XX k).map Rd.wd).length s6
                        rw [HROW.out, List.length_map, px_len]
                      · show Lie w5 9 a6 (namesV ((row8 NN XX k).map Rd.wd))
                        rw [HROW.out]
                        exact (Lie.own HO6.out).stay hst5
                  · exact Below.grown (HBB.out.alloc hs9 _) HG5.out (by simp; omega) (fun j hj => (own_lt (HO9.out) j hj).1)
                case measure => simp [intOf]; omega
          · have hkn2 : (n2 : Int) ≤ (k : Int) := by omega
            have HSK := Lib.hid (show stOf n2 S k = false by simp [stOf, hk2])
            have HK0 := Lib.hid hk00
            clear hk00 hst
            go_wp2_with fail
            obtain ⟨w2, hw2⟩ : ∃ w2, w2 = wo := ⟨wo, rfl⟩
            have HBW := Lib.hid (show Below wo.heap.size wo w2 by rw [hw2]; exact Below.refl _ _)
            have hsw : wo.heap.size ≤ w2.heap.size := by rw [hw2]; exact Nat.le_refl _
            rw [← hw2]
            clear hw2
            -- (t ++ ⟨#[32, 124]⟩): the text, (simp only [bl_append, HTX.out]; unfold Rd.headT; rw [if_neg HK0.out, if_neg (by rw [HSK.out]; decide)]; rfl): its bytes' proof, w2: the world, lt: the left side's letter, (by rw [← HLT.out HK0.out, lf_bar _ _ HK0.out HSK.out]): its proof
            have hgl0 := w2.heap.size
            obtain ⟨t2, ht2⟩ : ∃ t2, (t ++ ⟨#[32, 124]⟩) = t2 := ⟨_, rfl⟩
            have hb2 : bl t2 = Rd.TT X (stOf n2 S) (row8 NN XX) k ++ Rd.headT X (stOf n2 S) k := by
              rw [← ht2]
              (simp only [bl_append, HTX.out]; unfold Rd.headT; rw [if_neg HK0.out, if_neg (by rw [HSK.out]; decide)]; rfl)
            rw [ht2]
            have ht2s : t2.size ≤ 2 + 31 * k + 7 := by
              rw [← bl_length, hb2, List.length_append]
              have q1 := Rd.TT_len X (stOf n2 S) (row8 NN XX) (row8_len NN XX) k
              have q2 := Rd.headT_len X (stOf n2 S) k
              omega
            have HLL := Lib.hid (show str (Rd.wd (Rd.lf X (stOf n2 S) k)) = lt from (by rw [← HLT.out HK0.out, lf_bar _ _ HK0.out HSK.out]))
            have HT2 := Lib.hid hb2
            clear ht2 hb2
            go_wp2_with fail
            have hat3 := At.new w2 30 #[.string lt, .slice none 0 0, .string ⟨#[]⟩, .string ⟨#[]⟩]
            have hB3 := HBW.out.alloc hsw (.cells #[.string lt, .slice none 0 0, .string ⟨#[]⟩, .string ⟨#[]⟩] 30)
            obtain ⟨W3, hW3⟩ : ∃ W3, w2.alloc (.cells #[.string lt, .slice none 0 0, .string ⟨#[]⟩, .string ⟨#[]⟩] 30) = W3 := ⟨_, rfl⟩
            obtain ⟨g, hge⟩ : ∃ g, w2.heap.size = g := ⟨_, rfl⟩
            rw [hW3] at hat3 hB3 ⊢
            rw [hge] at hat3 hsw ⊢
            have HAT3 := Lib.hid hat3
            have HB3 := Lib.hid hB3
            clear hat3 hB3 hW3 hge hgl0
            (try clear e1)
            (try clear e2)
            (try clear e3)
            (try clear hkp)
            (try clear hkn2)
            (try generalize decide (0 < k) = z66)
            go_loopw [8, 13] (fun s kv w' => ∃ (j : Nat) (t3 : ByteArray) (a6 : Option Addr) (s6 : Nat), j ≤ NN k ∧ kv = .int .i64 (j : Int) ∧ s = .string t3 ∧ bl t3 = Rd.TT X (stOf n2 S) (row8 NN XX) k ++ Rd.headT X (stOf n2 S) k ++ Rd.rowT (px (XX k) j) ∧ At w' g 30 #[.string lt, .slice a6 j s6, .string ⟨#[]⟩, .string ⟨#[]⟩] ∧ w'.ownsRow wo.heap.size 9 1 (.slice a6 j s6) j (namesV ((px (XX k) j).map Rd.wd)) ∧ Below wo.heap.size wo w') (fun _ kv _ => NN k - (intOf kv).toNat)
            case atStart => exact ⟨0, t2, none, 0, by omega, rfl, rfl, by rw [HT2.out]; simp [px, Rd.rowT], HAT3.out, World.ownsRow_nil _ _ _ _, HB3.out⟩
            case round =>
              obtain ⟨j, t3, a6, s6, hj, rfl, rfl, ht3, hat, hown6, hbi⟩ := hrel
              have ht3s : t3.size ≤ 500 := by
                rw [← bl_length, ht3, List.length_append, List.length_append, Rd.rowT_len, px_len]
                have q1 := Rd.TT_len X (stOf n2 S) (row8 NN XX) (row8_len NN XX) k
                have q2 := Rd.headT_len X (stOf n2 S) k
                omega
              have hsi := hbi.size
              have hgi := hat.lt
              have HT3 := Lib.hid ht3
              have HAT := Lib.hid hat
              have HO6 := Lib.hid hown6
              have HBI := Lib.hid hbi
              have hc1 : wr.cell? ⟨b1, o1 + k, none⟩ = some (.slice (AA k) (NN k) (CC k)) := (hbi.cell (p := ⟨b1, o1 + k, none⟩) (by show b1 < _; omega)).trans hcell1
              clear ht3 hat hown6 hbi
              by_cases hjn : j < NN k
              · obtain ⟨b2, o2, hAA, hb2, hcc2⟩ := (HR1.out.row k hlt).each j hjn
                have hxx := (HR1.out.row k hlt).rx j hjn
                rw [hAA] at hc1
                have hb21 : b2 < wo.heap.size := by omega
                have hcwr : wo.cell? ⟨b2, o2 + j, none⟩ = some (.int .u8 (XX k j : Int)) := (HBE.out.cell (p := ⟨b2, o2 + j, none⟩) (by show b2 < _; omega)).trans hcc2
                have hc2 : wr.cell? ⟨b2, o2 + j, none⟩ = some (.int .u8 (XX k j : Int)) := (HBI.out.cell (p := ⟨b2, o2 + j, none⟩) hb21).trans hcwr
                have hc1wr : wo.cell? ⟨b1, o1 + k, none⟩ = some (.slice (some ⟨b2, o2, none⟩) (NN k) (CC k)) := by rw [hcell1, hAA]
                obtain ⟨T4, hT4⟩ : ∃ T, str (Rd.wd (XX k j)) = T := ⟨_, rfl⟩
                have hT4s : T4.size = 2 := by rw [← hT4]; rfl
                have HWE := Lib.hid (show ∀ w : World, Calls Tryd.prog 7 #[.int .u8 (XX k j : Int)] w fun e w' => e = .returned (.string T4) ∧ ∃ n, w' = w.drewN n from fun w => hT4 ▸ word6_any (XX k j) hxx w)
                have HT4 := Lib.hid hT4
                have HC1 := Lib.hid hc1wr
                have hji : (j : Int) < (NN k : Int) := by omega
                have hj0 : (0 : Int) ≤ (j : Int) := by omega
                have l6 : (⟨#[32]⟩ : ByteArray).size = 1 := rfl
                clear hAA hcc2 hxx hT4 hc1wr
                go_wp2_with fail
                refine (HWE.out _).mono ?_
                rintro e w4 ⟨rfl, q4, hq4⟩
                have hb4 : Below wr.heap.size wr w4 := hq4 ▸ below_drewN (Below.refl _ _) q4
                have hB4 := HBI.out.trans (hb4.mono hsi)
                have hat4 := HAT.out.below hb4 hgi
                have hO4 := own_stay HO6.out (Stay.below hb4)
                have hs4 := hb4.size
                have hcc5 : w4.cell? ⟨b1, o1 + k, none⟩ = some (.slice (some ⟨b2, o2, none⟩) (NN k) (CC k)) ∧ w4.cell? ⟨b2, o2 + j, none⟩ = some (.int .u8 (XX k j : Int)) := ⟨(hB4.cell (p := ⟨b1, o1 + k, none⟩) (by show b1 < _; omega)).trans HC1.out, (hB4.cell (p := ⟨b2, o2 + j, none⟩) hb21).trans hcwr⟩
                have HATX := Lib.hid (show ∀ w', Below w4.heap.size w4 w' → At w' g 30 #[.string lt, .slice a6 j s6, .string ⟨#[]⟩, .string ⟨#[]⟩] from fun w' hb => hat4.below hb hat4.lt)
                have HOX := Lib.hid (show ∀ w', Below w4.heap.size w4 w' → w'.ownsRow wo.heap.size 9 1 (.slice a6 j s6) j (namesV ((px (XX k) j).map Rd.wd)) from fun w' hb => own_stay hO4 (Stay.below hb))
                have KEEP := Lib.hid (show ∀ w', Below wo.heap.size wo w' → (w'.cell? ⟨b1, o1 + k, none⟩ = some (.slice (some ⟨b2, o2, none⟩) (NN k) (CC k)) ∧ w'.cell? ⟨b2, o2 + j, none⟩ = some (.int .u8 (XX k j : Int))) from fun w' hb => ⟨(hb.cell (p := ⟨b1, o1 + k, none⟩) (by show b1 < _; omega)).trans HC1.out, (hb.cell (p := ⟨b2, o2 + j, none⟩) hb21).trans hcwr⟩)
                have HB4 := Lib.hid hB4
                have x1 := hat4.cell 1
                have xf := hat4.frozen
                simp only [List.getElem?_toArray, List.getElem?_cons_zero, List.getElem?_cons_succ] at x1
                have hgl4 := hat4.lt
                have x1a : ∀ o, (w4.alloc o).cell? ⟨g, 1, none⟩ = some (.slice a6 j s6) := fun o => by
                  have := (hat4.alloc o).cell 1
                  simpa only [List.getElem?_toArray, List.getElem?_cons_zero, List.getElem?_cons_succ] using this
                obtain ⟨y1, y2⟩ := id hcc5
                have hc3 : j + 1 ≤ maxLen := by unfold maxLen; omega
                have hc4 : (j + 1) * 16 ≤ 140737488355328 := by omega
                have hle4 : wo.heap.size ≤ w4.heap.size := hB4.size
                clear hb4 hB4 hat4 hO4 hcwr hc1 hc2 hq4
                go_wp2_with fail
                go_region_law (first
                  | (refine step_append_own3 (by rfl) _ _ 28 rfl wo.heap.size 9 i1 _ 1 16 Tryd.underlying28 hi1 hy0 hy1 hy2 rfl (by decide) _ j (namesV ((px (XX k) j).map Rd.wd)) rfl (HOX.out _ (hb5.alloc hle5 _)) _ 1 1 [.string T4] rfl rfl (cells_new _ _ _) (by simp [Value.oneCell']) hc3 hc4 (by simp; omega) ?_
                     intro v6 w6 hown6 hg6 hn6
                     have hA6 := At.grown (HATX.out _ (hb5.alloc hle5 _)) hg6 (fun e => own_apart (HOX.out w4 (Below.refl _ _)) (HATX.out w4 (Below.refl _ _)) (by decide) e.symm)
                     have z1 := hA6.cell 1
                     have zf := hA6.frozen
                     simp only [List.getElem?_toArray, List.getElem?_cons_zero, List.getElem?_cons_succ] at z1
                     have hB6 : Below wo.heap.size wo w6 := Below.grown (HB4.out.trans (Below.mono (hb5.alloc hle5 _) hle4)) hg6 (by simp; omega) (fun j hj => (own_lt (HOX.out w4 (Below.refl _ _)) j hj).1)
                     have hgle : wo.heap.size ≤ g := hsw
                     obtain ⟨a7, s7, rfl⟩ := own_form hown6)
                  | (go_simp
                     go_at_call 7
                     refine Calls.mono (HWE.out _) ?_
                     rintro e w5 ⟨rfl, q5, hq5⟩
                     have hb5 : Below w4.heap.size w4 w5 := by rw [hq5]; exact below_drewN (below_drew (Below.refl _ _)) _
                     clear hq5
                     have hle5 := hb5.size
                     have hle6 : wo.heap.size ≤ w5.heap.size := Nat.le_trans hle4 hle5
                     have hcc7 := KEEP.out w5 (HB4.out.trans (Below.mono hb5 hle4))
                     have x5 := (HATX.out w5 hb5).cell 1
                     have x5a : ∀ o, (w5.alloc o).cell? ⟨g, 1, none⟩ = some (.slice a6 j s6) := fun o => by
                       have := ((HATX.out w5 hb5).alloc o).cell 1
                       simpa only [List.getElem?_toArray, List.getElem?_cons_zero, List.getElem?_cons_succ] using this
                     simp only [List.getElem?_toArray, List.getElem?_cons_zero, List.getElem?_cons_succ] at x5
                     dsimp only))
                all_goals
                  have HA6 := Lib.hid hA6
                  have HN6 := Lib.hid hown6
                  have HB6 := Lib.hid hB6
                  clear hA6 hown6 hB6 hg6 hn6
                  go_wp2_with fail
                  go_roundw
                  case rel =>
                    refine ⟨j + 1, _, a7, s7, by omega, by go_num, rfl, ?_, ?_, ?_, Below.setCell HB6.out hgle _⟩
                    · rw [bl_append, bl_append, HT3.out, ← HT4.out, px_succ, Rd.rowT_snoc, bl_str]
                      simp only [List.append_assoc]
                      rfl
                    · have := HA6.out.set 1 (.slice a7 (j + 1) s7)
                      simpa using this
                    · have h := own_stay HN6.out (Stay.far HA6.out (by decide) (grown_set (grown_refl _ _) 1 (.slice a7 (j + 1) s7)))
                      rw [px_succ, List.map_append, List.map_cons, List.map_nil, namesV_snoc, HT4.out]
                      exact h
                  case measure => simp [intOf]; omega
              · obtain rfl : j = NN k := by omega
                have x0 := HAT.out.cell 0
                have x1 := HAT.out.cell 1
                have x2 := HAT.out.cell 2
                have x3 := HAT.out.cell 3
                simp only [List.getElem?_toArray, List.getElem?_cons_zero, List.getElem?_cons_succ] at x0 x1 x2 x3
                have HO9 := Lib.hid (own_stay HOWN.out (Stay.below HBI.out))
                have hs9 : w1.heap.size ≤ wr.heap.size := by omega
                have hc3 : k + 1 ≤ maxLen := by unfold maxLen; omega
                have hc4 : (k + 1) * 72 ≤ 140737488355328 := by omega
                have HBB := Lib.hid (HBE.out.trans (HBI.out.mono hsz))
                have HNN := Lib.hid (show ∀ p ∈ ql, Nms wr p.2 p.1.right from fun p hp => (HNM.out p hp).stay (Stay.below HBI.out))
                go_wp2_with (at_builtin; refine wpList_append_own2 _ rfl (.tmp 111) (.tmp 113) 26 rfl w1.heap.size 30 i0 _ 4 72 Tryd.underlying26 hi hz0 hz1 hz2 rfl (by decide) _ _ _ rfl (HO9.out.alloc _) ⟨wr.heap.size, 0, none⟩ 1 1 [.string lt, .slice a6 (NN k) s6, .string ⟨#[]⟩, .string ⟨#[]⟩] rfl rfl (cells_new _ _ _) (by simp [Value.oneCell']) hc3 hc4 (by simp; omega) ?_)
                intro v' w5 hown5 hg5 hn5
                obtain ⟨a7, s7, rfl⟩ := own_form hown5
                have HN5 := Lib.hid hown5
                have HG5 := Lib.hid hg5
                clear hown5 hg5 hn5
                go_wp2_with fail
                go_roundw
                case rel =>
                  have hst5 : Stay 9 wr w5 := (Stay.below ((Below.refl _ _).alloc (Nat.le_refl _) _)).trans (Stay.own (HO9.out.alloc _) (by decide) HG5.out)
                  refine ⟨k + 1, t3, lt, a7, s7, ql ++ [(Rd.ruleOf X (stOf n2 S) (row8 NN XX) k, .slice a6 (NN k) s6)], by omega, by go_num, rfl, ?_, rfl, fun _ => HLL.out, by go_num, ?_, ?_, ?_, ?_⟩
                  · rw [HT3.out, Rd.TT, HROW.out, List.append_assoc]
                  · rw [rulesV_snoc, show ruleCells (Rd.ruleOf X (stOf n2 S) (row8 NN XX) k, .slice a6 (NN k) s6) = [.string lt, .slice a6 (NN k) s6, .string ⟨#[]⟩, .string ⟨#[]⟩] from by unfold ruleCells Rd.ruleOf; rw [← HLL.out]; rfl]
                    exact HN5.out
                  · rw [List.map_append, HQL.out]; rfl
                  · intro p hp
                    rcases List.mem_append.1 hp with h | h
                    · exact (HNN.out p h).stay hst5
                    · simp only [List.mem_cons, List.not_mem_nil, or_false] at h
                      subst h
                      refine ⟨a6, s6, ?_, ?_⟩
                      · show Value.slice a6 (NN k) s6 = Value.slice a6 ((row8 NN XX k).map Rd.wd).length s6
                        rw [HROW.out, List.length_map, px_len]
                      · show Lie w5 9 a6 (namesV ((row8 NN XX k).map Rd.wd))
                        rw [HROW.out]
                        exact (Lie.own HO6.out).stay hst5
                  · exact Below.grown (HBB.out.alloc hs9 _) HG5.out (by simp; omega) (fun j hj => (own_lt (HO9.out) j hj).1)
                case measure => simp [intOf]; omega
    · obtain rfl : n1 = k := by omega
      go_wp2_with fail
      obtain ⟨T0, hT0⟩ : ∃ T0, t ++ (⟨#[59]⟩ : ByteArray) = T0 := ⟨_, rfl⟩
      have hbT : bl T0 = Rd.TT X (stOf n2 S) (row8 NN XX) n1 ++ [59] := by rw [← hT0, bl_append, HTX.out]; rfl
      have hTl : (bl T0).length ≤ 400 := by
        rw [hbT, List.length_append]
        have q1 := Rd.TT_len X (stOf n2 S) (row8 NN XX) (row8_len NN XX) n1
        show _ + 1 ≤ _
        omega
      have hTs : T0.size ≤ 9223372036854775807 := by rw [← bl_length]; omega
      have hTr : Tab wo := HT1.out.below HBE.out (by omega)
      have hz0r : 0 < wo.heap.size := by omega
      obtain ⟨e1, e2⟩ := Rd.read_rules X (stOf n2 S) (row8 NN XX) (row8_len NN XX) n1 (by omega) (by omega) (by rw [← hbT]; omega)
      rw [← hbT] at e1 e2
      rw [hT0]
      clear hT0 hbT hTl
      obtain ⟨b0, o, hA, hb0, hcc0⟩ := HX1.out.each 0 (by omega)
      subst hA
      have hcell0 : wo.cell? ⟨b0, o + 0, none⟩ = some (.int .u8 (X 0 : Int)) := (HBE.out.cell (p := ⟨b0, o + 0, none⟩) (by show b0 < _; omega)).trans hcc0
      rw [Nat.add_zero] at hcell0
      have hx := HX1.out.rx 0 (by omega)
      obtain ⟨T, hTT⟩ : ∃ T, str (Rd.wd (X 0)) = T := ⟨_, rfl⟩
      have HWD := Lib.hid (show ∀ w : World, Calls Tryd.prog 7 #[.int .u8 (X 0 : Int)] w fun e w' => e = .returned (.string T) ∧ ∃ n, w' = w.drewN n from fun w => hTT ▸ word6_any (X 0) hx w)
      have HTW := Lib.hid hTT
      refine (read_is T0 _ _ wo hTs hTr hz0r e2 e1).mono ?_
      clear e1 e2 hTs hTr hx hcc0 hTT
      rintro e w4 ⟨⟨gv, rfl, hgi⟩, hb4⟩
      have hs4 := hb4.size
      have HGI0 := Lib.hid hgi
      obtain ⟨tv, sv, lv, rv, rfl, ⟨E1, e1, rfl, k1⟩, ⟨E2, e2, rfl, k2⟩, ⟨E3, e3, pl3, rfl, q3, k3, j3⟩, ⟨E4, e4, ql3, rfl, q4, k4, j4⟩⟩ := hgi.ex
      simp only [diagV, List.length_nil, Rd.WW_len, HTW.out] at HGI0 ⊢
      rw [show ((0 : Nat) : Int) = 0 from rfl]
      obtain ⟨hg, hd, hbn⟩ := two_new w4 #[.slice E1 0 e1, .slice E2 0 e2, .slice E3 0 e3, .string T, .slice E4 n1 e4] #[.int .i64 0, .int .i64 0, .int .i64 0]
      have HGI := Lib.hid (HGI0.out.below hbn)
      have HB4 := Lib.hid (hb4.trans (hbn.mono hs4))
      have HGN := Lib.hid hg
      have HDN := Lib.hid hd
      clear hgi k1 k2 k3 k4 j3 j4 q3 q4 hg hd hbn hb4
      go_wp2_with fail
      have hg := HGN.out
      have hd := HDN.out
      have hB4 := HB4.out
      obtain ⟨W3, hW3⟩ : ∃ W3, (w4.alloc (.cells #[.slice E1 0 e1, .slice E2 0 e2, .slice E3 0 e3, .string T, .slice E4 n1 e4] 35)).alloc (.cells #[.int .i64 0, .int .i64 0, .int .i64 0] 40) = W3 := ⟨_, rfl⟩
      obtain ⟨g3, hge3⟩ : ∃ g3, w4.heap.size = g3 := ⟨_, rfl⟩
      rw [hW3] at hg hd hB4 HGI ⊢
      rw [hge3] at hg hd ⊢
      have KEEP := Lib.hid (show ∀ w', Below W3.heap.size W3 w' → (w'.cell? ⟨b0, o, none⟩ = some (.int .u8 (X 0 : Int)) ∧ w'.cell? ⟨g3 + 1, 0, none⟩ = some (.int .i64 0) ∧
          w'.cell? ⟨g3, 0, none⟩ = some (.slice E1 0 e1) ∧ w'.cell? ⟨g3, 1, none⟩ = some (.slice E2 0 e2) ∧ w'.cell? ⟨g3, 2, none⟩ = some (.slice E3 0 e3) ∧ w'.cell? ⟨g3, 3, none⟩ = some (.string T) ∧ w'.cell? ⟨g3, 4, none⟩ = some (.slice E4 n1 e4)) from fun w' hb =>
        ⟨((hB4.trans (hb.mono hB4.size)).cell (p := ⟨b0, o, none⟩) (by show b0 < _; omega)).trans hcell0, (hd.below hb hd.lt).cell 0, (hg.below hb hg.lt).cell 0, (hg.below hb hg.lt).cell 1, (hg.below hb hg.lt).cell 2, (hg.below hb hg.lt).cell 3, (hg.below hb hg.lt).cell 4⟩)
      have hkk0 := KEEP.out W3 (Below.refl _ _)
      have HLR := Lib.hid ((Lie.own HOWN.out).below hB4)
      have HNR := Lib.hid (show ∀ p ∈ ql, Nms W3 p.2 p.1.right from fun p hp => (HNM.out p hp).stay (Stay.below hB4))
      have HBX := Lib.hid (HB1.out.trans ((HBE.out.trans (hB4.mono hsz)).mono hs1))
      have hS3 := HBX.out.size
      have HLN := Lib.hid (show n1 = (Rd.WW X (stOf n2 S) (row8 NN XX) n1).length by rw [Rd.WW_len])
      have HRR := Lib.hid (show ∀ r ∈ Rd.WW X (stOf n2 S) (row8 NN XX) n1, r.right.length ≤ 1000000 from WW_right X (stOf n2 S) NN XX n1)
      clear hg hd hB4 hW3 hge3 HGN HDN HB4 hcell0
      obtain ⟨y1, y2, y3, y4, y5, y6, y7⟩ := id hkk0
      have hn0 : (0 : Int) < (n1 : Int) := by omega
      have hn0' : 0 < n1 := by omega
      go_region_held3 (fun w' => w'.cell? ⟨b0, o, none⟩ = some (.int .u8 (X 0 : Int)) ∧ w'.cell? ⟨g3 + 1, 0, none⟩ = some (.int .i64 0) ∧
          w'.cell? ⟨g3, 0, none⟩ = some (.slice E1 0 e1) ∧ w'.cell? ⟨g3, 1, none⟩ = some (.slice E2 0 e2) ∧ w'.cell? ⟨g3, 2, none⟩ = some (.slice E3 0 e3) ∧ w'.cell? ⟨g3, 3, none⟩ = some (.string T) ∧ w'.cell? ⟨g3, 4, none⟩ = some (.slice E4 n1 e4)) (first | exact hkk7 | exact hkk5 | exact hkk0) (first
        | (go_at_call 7
           refine Calls.mono (HWD.out _) ?_
           rintro e w5 ⟨rfl, q5, hq5⟩
           have hb6 : Below W3.heap.size W3 w5 := by rw [hq5]; first | exact below_drewN (below_drew (Below.refl _ _)) _ | exact below_drewN (Below.refl _ _) _
           clear hq5
           have hkk5 := KEEP.out w5 hb6)
        | (go_at_call 9
           refine Calls.mono (same_any _ _ ⟨[], [], [], Rd.wd (X 0), Rd.WW X (stOf n2 S) (row8 NN XX) n1⟩ _ (HGI.out.below hb6) (GramIs.rules HTW.out HLN.out HQL.out (HLR.out.below hb6) (fun p hp => (HNR.out p hp).stay (Stay.below hb6))) ⟨by simp, by simp, by simp, by rw [Rd.WW_len]; omega⟩ (by simp) HRR.out) ?_
           rintro e w7 ⟨rfl, hb7⟩
           have hkk7 := KEEP.out w7 (hb6.trans (hb7.mono hb6.size))))
      go_wp2_with fail
      go_ret
      exact ⟨rfl, HBX.out.trans ((hb6.trans (hb7.mono hb6.size)).mono hS3)⟩

end Go.Proofs.YtgmihbfikggkjaaDoor
