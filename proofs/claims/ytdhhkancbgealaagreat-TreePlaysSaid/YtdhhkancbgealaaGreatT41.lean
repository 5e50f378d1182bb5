import Derived.Test.YtdhhkancbgealaaGreatT06
import Derived.Test.YtdhhkancbgealaaGreatT38
import Derived.Test.YtdhhkancbgealaaGreatT28
import Derived.Test.YtdhhkancbgealaaGreatT25
import Derived.Test.YtdhhkancbgealaaGreatT40
section
namespace Go.Proofs.YtdhhkancbgealaaGreat
open Go.RowKit
open Lx
set_option linter.unusedVariables false
set_option linter.unusedSimpArgs false
set_option maxRecDepth 100000
set_option maxHeartbeats 16000000 in
theorem rname8_any (v : Value) (T V : List Rd.Name) (i : Int) (B : Nat) (w : World) (h : SymC w B v T V) (hB : B ≤ w.heap.size) (hT : T.length ≤ 1000000) (hV : V.length ≤ 1000000) :
    Calls Tryz.prog 61 #[v, .int .i64 i] w fun e w' => e = .returned (.string (str (Nm.nameAt T V i))) ∧ Below w.heap.size w w' := by
  obtain ⟨A1, c1, A2, c2, A3, n3, c3, A4, n4, c4, A5, n5, c5, A6, n6, c6, rfl, h1, h2⟩ := h.ex
  have hb := (Below.refl w.heap.size w).alloc (Nat.le_refl _) (.cells #[.slice A1 T.length c1, .slice A2 V.length c2, .slice A3 n3 c3, .slice A4 n4 c4, .slice A5 n5 c5, .slice A6 n6 c6] 34)
  have HC1 := Lib.hid (h1.below (hb.mono hB))
  have HC2 := Lib.hid (h2.below (hb.mono hB))
  have HNE := Lib.hid (show Nm.nameAt T V i = if i < 0 ∨ (T.length : Int) + (V.length : Int) < i then [] else if i = (T.length : Int) + (V.length : Int) then Nm.accN else if i < (T.length : Int) then T.getD i.toNat [] else V.getD (i - (T.length : Int)).toNat [] from rfl)
  have HG1 := Lib.hid (fun k (hk : k < T.length) => getD_get hk)
  have HG2 := Lib.hid (fun k (hk : k < V.length) => getD_get hk)
  obtain ⟨R, hR⟩ : ∃ R, str (Nm.nameAt T V i) = R := ⟨_, rfl⟩
  have HR := Lib.hid hR
  rw [hR]
  generalize T.length = NT at HC1 HC2 hb hT HNE HG1 ⊢
  generalize V.length = NV at HC1 HC2 hb hV HNE HG2 ⊢
  have HB := Lib.hid hb
  clear h h1 h2 hb hR
  by_cases h0 : i < 0
  · have hr : R = ⟨#[]⟩ := by rw [← HR.out, HNE.out, if_pos (.inl h0)]; rfl
    subst hr
    have h3 : ¬ (0 ≤ i) := by omega
    have h4 : ¬ ((NT : Int) ≤ i) := by omega
    have e1 : (i == (NT : Int) + (NV : Int)) = false := beq_eq_false_iff_ne.2 (by omega)
    go_enter Tryz.func61, Tryz.ntmps61
    go_wp2_with fail
    go_ret
    exact ⟨rfl, HB.out⟩
  · have h3 : 0 ≤ i := by omega
    by_cases hhi : (NT : Int) + (NV : Int) < i
    · have hr : R = ⟨#[]⟩ := by rw [← HR.out, HNE.out, if_pos (.inr hhi)]; rfl
      subst hr
      have h4 : ¬ (i < (NT : Int)) := by omega
      have h5 : (NT : Int) ≤ i := by omega
      have h6 : ¬ (i < (NT : Int) + (NV : Int)) := by omega
      have e1 : (i == (NT : Int) + (NV : Int)) = false := beq_eq_false_iff_ne.2 (by omega)
      go_enter Tryz.func61, Tryz.ntmps61
      go_wp2_with fail
      go_ret
      exact ⟨rfl, HB.out⟩
    · have hno : ¬ (i < 0 ∨ (NT : Int) + (NV : Int) < i) := by omega
      have HNO := Lib.hid hno
      clear hno
      by_cases hac : i = (NT : Int) + (NV : Int)
      · have hr : R = str Nm.accN := by rw [← HR.out, HNE.out, if_neg HNO.out, if_pos hac]
        have e1 : (i == (NT : Int) + (NV : Int)) = true := beq_iff_eq.2 hac
        have HRR := Lib.hid hr
        have h4 : ¬ (i < (NT : Int)) := by omega
        have h5 : (NT : Int) ≤ i := by omega
        have h6 : ¬ (i < (NT : Int) + (NV : Int)) := by omega
        clear hr hac
        go_enter Tryz.func61, Tryz.ntmps61
        go_wp2_with fail
        go_ret
        exact ⟨by rw [HRR.out]; rfl, HB.out⟩
      · have HAN := Lib.hid hac
        by_cases ht : i < (NT : Int)
        · obtain ⟨k, rfl⟩ : ∃ k : Nat, i = (k : Int) := ⟨i.toNat, by omega⟩
          have hr : R = str (T.getD k []) := by rw [← HR.out, HNE.out, if_neg HNO.out, if_neg HAN.out, if_pos ht, Int.toNat_natCast]
          have hg := HG1.out k (by omega)
          obtain ⟨X, hX⟩ : ∃ X, T.getD k [] = X := ⟨_, rfl⟩
          rw [hX] at hr hg
          obtain ⟨b, o, rfl, hbb, z9⟩ := cl_get HC1.out hg
          subst hr
          clear hg hX hac
          generalize str X = XX at z9 ⊢
          go_enter Tryz.func61, Tryz.ntmps61
          go_wp2_with fail
          go_ret
          exact ⟨rfl, HB.out⟩
        · obtain ⟨k, rfl⟩ : ∃ k : Nat, i = (NT : Int) + (k : Int) := ⟨(i - (NT : Int)).toNat, by omega⟩
          have hsub : (NT : Int) + (k : Int) - (NT : Int) = (k : Int) := by omega
          have hr : R = str (V.getD k []) := by rw [← HR.out, HNE.out, if_neg HNO.out, if_neg HAN.out, if_neg ht, hsub, Int.toNat_natCast]
          have hg := HG2.out k (by omega)
          obtain ⟨X, hX⟩ : ∃ X, V.getD k [] = X := ⟨_, rfl⟩
          rw [hX] at hr hg
          obtain ⟨b, o, rfl, hbb, z9⟩ := cl_get HC2.out hg
          have hk0 : (0 : Int) ≤ (k : Int) := by omega
          have hk1 : (k : Int) < (NV : Int) := by omega
          have h5 : (NT : Int) ≤ (NT : Int) + (k : Int) := by omega
          have h6 : (NT : Int) + (k : Int) < (NT : Int) + (NV : Int) := by omega
          have hk2 : k ≤ 1000000 := by omega
          subst hr
          clear hg hX hac
          generalize str X = XX at z9 ⊢
          go_enter Tryz.func61, Tryz.ntmps61
          go_wp2_with fail
          go_ret
          exact ⟨rfl, HB.out⟩
end Go.Proofs.YtdhhkancbgealaaGreat
end
section
namespace Go.Proofs.YtdhhkancbgealaaGreat
open Go.RowKit Go.Shelf
open Lx
set_option linter.unusedVariables false
set_option linter.unusedSimpArgs false
set_option maxRecDepth 100000
theorem str_appS (a b : List UInt8) : str (a ++ b) = str a ++ str b := by
 unfold str
 rw [ByteArray.mk_append_mk]
namespace Tr
theorem evs_le {L : List Nd} (h : Down L) : ∀ (f : Nat) (c : Int), ∀ e ∈ evs L f c, e.1 ≤ c
 | 0, _, e, he => by cases he
 | f + 1, c, e, he => by
  have he : e ∈ (c, true) :: (((kidsOf L c).flatMap fun k => evs L f k) ++ [(c, false)]) := he
  rcases List.mem_cons.1 he with rfl | he
  ·exact Int.le_refl _
  ·rcases List.mem_append.1 he with he | he
   ·obtain ⟨k, hk, he⟩ := List.mem_flatMap.1 he
    have h1 := evs_le h f k e he
    have h2 := h c k hk
    omega
   ·simp at he; subst he; exact Int.le_refl _
theorem Evs_le {L : List Nd} (h : Down L) (c : Int) : ∀ e ∈ Evs L c, e.1 ≤ c := evs_le h _ c
theorem flatMap_same {α β : Type} {f g : α → List β} {l : List α} (h : ∀ x ∈ l, f x = g x) : l.flatMap f = l.flatMap g := by
 rw [List.flatMap, List.flatMap, List.map_congr_left h]
theorem show_below {L : List Nd} (hd : Down L) (P : Nm.Plan) {i c : Int} (hc : has L c = true) (hci : c < i) : (Evs L c).flatMap (showEv P L i) = 32 :: show_ P L c := by
 have h1 : showEv P L i (c, true) = 32 :: showEv P L c (c, true) := by
  unfold showEv
  rw [if_pos rfl, if_pos rfl, if_neg (by show ¬ c = i; omega), if_pos rfl]; rfl
 have h2 : showEv P L i (c, false) = showEv P L c (c, false) := by
  unfold showEv; simp
 have hA : ((kidsOf L c).flatMap fun k => Evs L k).flatMap (showEv P L i) = ((kidsOf L c).flatMap fun k => Evs L k).flatMap (showEv P L c) := by
  refine flatMap_same fun e he => ?_
  obtain ⟨k, hk, he⟩ := List.mem_flatMap.1 he
  have h3 := Evs_le hd k e he
  have h4 := hd c k hk
  have hne1 : ¬ e.1 = i := by omega
  have hne2 : ¬ e.1 = c := by omega
  unfold showEv
  rw [if_neg hne1, if_neg hne2]
 rw [show_pos hc, Evs_eq hd c, List.flatMap_cons, List.flatMap_cons, h1, List.cons_append, List.flatMap_append, List.flatMap_append, hA]
 simp [h2]
theorem Good.show_eq {L : List Nd} (hg : Good L) (P : Nm.Plan) {i : Int} (hi : has L i = true) : show_ P L i = ((if (at_ L i).leaf = true then [] else [40]) ++ Nm.nameAt P.terms P.vars (at_ L i).sym) ++ (((kidsOf L i).flatMap fun c => 32 :: show_ P L c) ++ (if (at_ L i).leaf = true then [] else [41])) := by
 have h1 : showEv P L i (i, true) = (if (at_ L i).leaf = true then [] else [40]) ++ Nm.nameAt P.terms P.vars (at_ L i).sym := by
  unfold showEv
  rw [if_pos rfl, if_pos rfl]; rfl
 have h2 : showEv P L i (i, false) = if (at_ L i).leaf = true then [] else [41] := by
  unfold showEv; simp
 rw [show_pos hi, Evs_eq hg.down i, List.flatMap_cons, List.flatMap_append, h1]
 congr 1
 congr 1
 ·rw [flat_flat]
  exact flatMap_same fun c hc => show_below hg.down P (hg.kid_has hc) (hg.down i c hc).2
 ·rw [List.flatMap_cons, h2]; simp
theorem Good.show_len {L : List Nd} (hg : Good L) {P : Nm.Plan} (hz : ∀ s, (Nm.nameAt P.terms P.vars s).length ≤ 1000) (hL : L.length ≤ 1000) (i : Int) : (show_ P L i).length ≤ 2006004 := by
 cases hi : has L i with
 | false => rw [show_neg hi]; simp
 | true =>
  rw [show_pos hi]
  have h1 := showEvs_len (P := P) (L := L) (i := i) hz (Evs L i)
  have h2 := Evs_len L i
  have h3 := hg.bel_len i
  omega
def shown (P : Nm.Plan) (L : List Nd) (nm : List UInt8) (K : List Int) : List UInt8 := (40 :: nm) ++ K.flatMap fun c => 32 :: show_ P L c
theorem shown_len {L : List Nd} (hg : Good L) {P : Nm.Plan} (hz : ∀ s, (Nm.nameAt P.terms P.vars s).length ≤ 1000) (hL : L.length ≤ 1000) {nm : List UInt8} (hn : nm.length ≤ 1000) (K : List Int) : (shown P L nm K).length ≤ 1001 + K.length * 2006005 := by
 have h : ∀ l : List Int, (l.flatMap fun c => 32 :: show_ P L c).length ≤ l.length * 2006005 := fun l => by
  induction l with
  | nil => simp
  | cons c l ih =>
   rw [List.flatMap_cons, List.length_append, List.length_cons, List.length_cons]
   have := hg.show_len hz hL c
   omega
 unfold shown
 have := h K
 rw [List.length_append, List.length_cons]; omega
end Tr
set_option maxHeartbeats 16000000 in
theorem rshow_all (pv : Value) (P : Nm.Plan) (B rt rm : Nat) (l m : Int) (v : Value) (S : List Sl) (hG : Tr.Good (nds S)) (hL : (nds S).length ≤ 1000) (hb : PlanB P) : ∀ (f : Nat) (i : Int), i.toNat < f → ∀ (w : World), RefIs w B rt rm l m v S → PlanR w pv P →
  Calls Tryz.prog 34 #[.pointer (some ⟨rt, 0, none⟩), pv, .int .i64 i] w fun e w' => e = .returned (.string (str (Tr.show_ P (nds S) i))) ∧ Below w.heap.size w w' := by
 intro f
 induction f with
 | zero => intro i hi; exact absurd hi (Nat.not_lt_zero _)
 | succ f ih =>
 intro i hi w h hp
 have hpo := hp
 obtain ⟨P1, n1, c1p, P2, n2, c2p, P3, n3, c3p, P4, n4, c4p, P5, n5, c5p, P6, n6, c6p, rfl, _, _, _⟩ := hp.shape3
 obtain ⟨W, hW⟩ : ∃ W, w.alloc (.cells #[.slice P1 n1 c1p, .slice P2 n2 c2p, .slice P3 n3 c3p, .slice P4 n4 c4p, .slice P5 n5 c5p, .slice P6 n6 c6p] 34) = W := ⟨_, rfl⟩
 have hb0 : Below w.heap.size w W := by rw [← hW]; exact (Below.refl w.heap.size w).alloc (Nat.le_refl _) _
 have ha0 : At W w.heap.size 34 #[.slice P1 n1 c1p, .slice P2 n2 c2p, .slice P3 n3 c3p, .slice P4 n4 c4p, .slice P5 n5 c5p, .slice P6 n6 c6p] := by rw [← hW]; exact At.new _ _ _
 have hRW := h.below hb0
 have HRF := Lib.hid hRW
 have HPR := Lib.hid (hp.below hb0)
 have HPBB := Lib.hid hb
 have hrl := hRW.at_.lt
 obtain ⟨pb, hpb⟩ : ∃ pb, w.heap.size = pb := ⟨_, rfl⟩
 have HBW0 := Lib.hid hb0
 rw [hpb] at ha0
 have hpbl := ha0.lt
 have p0 := ha0.cell 0
 have p1 := ha0.cell 1
 have p2 := ha0.cell 2
 have p3 := ha0.cell 3
 have p4 := ha0.cell 4
 have p5 := ha0.cell 5
 simp only [List.getElem?_toArray, List.getElem?_cons_zero, List.getElem?_cons_succ] at p0 p1 p2 p3 p4 p5
 have HW := Lib.hid hW
 have HPB := Lib.hid hpb
 have hsz := hRW.size
 have HB0 := Lib.hid (Below.refl W.heap.size W)
 cases hh : Tr.has (nds S) i with
 | false =>
  rw [show Tr.show_ P (nds S) i = [] from show_neg hh]
  have hno := Tr.has_false hh
  rw [nds_len] at hno
  obtain ⟨ao, cap, rfl⟩ := own_form h.own
  have c1 := hRW.at_.cell 1
  simp only [List.getElem?_toArray, List.getElem?_cons_zero, List.getElem?_cons_succ] at c1
  obtain ⟨n, hn⟩ : ∃ n, S.length = n := ⟨_, rfl⟩
  rw [hn] at c1 hno hsz
  clear h hp hpo hh hn ih hW hb0 ha0 hRW hpb
  by_cases h0 : i < 0
  ·go_enter Tryz.func34, Tryz.ntmps34
   go_upto_region 1 with (fail)
   rw [HW.out]
   go_wp2_with fail
   go_ret
   exact ⟨rfl, HBW0.out⟩
  ·have h1 : (n : Int) ≤ i := by omega
   go_enter Tryz.func34, Tryz.ntmps34
   go_upto_region 1 with (fail)
   rw [HW.out]
   go_wp2_with fail
   go_ret
   exact ⟨rfl, HBW0.out⟩
 | true =>
  obtain ⟨s, q1, q2, q3⟩ := slAt_mem hh
  obtain ⟨k, rfl⟩ : ∃ k : Nat, i = (k : Int) := ⟨i.toNat, by omega⟩
  rw [Int.toNat_natCast] at q1
  obtain ⟨b, cap, rfl, hlt, hbl, hcl, _⟩ := hRW.cells q1
  have c1 := hRW.at_.cell 1
  simp only [List.getElem?_toArray, List.getElem?_cons_zero, List.getElem?_cons_succ] at c1
  have hse := hG.show_eq P hh
  have hat : Tr.at_ (nds S) (k : Int) = s.x := Tr.at_of (nds_at q1)
  have hkl := hG.kids_lenR (k : Int)
  have hdn := hG.down (k : Int)
  have hlk0 := hG.leaf k s.x (nds_at q1)
  unfold Tr.kidsOf at hse hkl hdn
  rw [hat] at hse hkl hdn
  have y0 := hcl 0 _ (by omega) rfl
  have y2 := hcl 2 _ (by omega) rfl
  have y6 := hcl 6 _ (by omega) rfl
  simp only [Nat.add_zero] at y0
  unfold Sl.kv at y6
  have HK := Lib.hid (hRW.kids s (List.mem_of_getElem? q1))
  obtain ⟨⟨lf, un, ru, sy, tk, K⟩, KA, kc⟩ := s
  dsimp only at hse hkl hdn y0 y2 y6 HK hlk0
  obtain ⟨kn, hkn⟩ : ∃ kn, K.length = kn := ⟨_, rfl⟩
  rw [hkn] at y6 hkl
  have HKN := Lib.hid hkn
  obtain ⟨n, hn⟩ : ∃ n, S.length = n := ⟨_, rfl⟩
  have hln : (nds S).length = n := by rw [nds_len, hn]
  have HLN := Lib.hid hln
  have HLL := Lib.hid hL
  rw [hln] at hkl hL
  rw [hn] at c1 hlt hsz
  have hnz := small_names hb.tnames hb.vnames
  have HNZ := Lib.hid hnz
  have HGD := Lib.hid hG
  obtain ⟨nm, hnm⟩ : ∃ x, Nm.nameAt P.terms P.vars sy = x := ⟨_, rfl⟩
  have hnl : nm.length ≤ 1000 := by rw [← hnm]; exact hnz sy
  have HNM := Lib.hid hnm
  rw [hnm] at hse
  have HSE := Lib.hid hse
  have HDN := Lib.hid hdn
  have HIH := Lib.hid ih
  have HLK := Lib.hid hlk0
  obtain ⟨NM, hNM⟩ : ∃ s, str nm = s := ⟨_, rfl⟩
  have hNZ : NM.size ≤ 1000 := by rw [← hNM, ← bl_length, bl_str]; exact hnl
  have HNMS := Lib.hid hNM
  have hk0 : (0 : Int) ≤ (k : Int) := by omega
  have hk1 : ¬ (k : Int) < 0 := by omega
  have hkn1 : (k : Int) < (n : Int) := by omega
  have hkn2 : ¬ (n : Int) ≤ (k : Int) := by omega
  obtain ⟨GW, hGW⟩ := Qt.class_of W.heap.size W (Nat.le_refl _)
  obtain ⟨xw, hxw⟩ := hGW.onto W (Below.refl _ _)
  have HGW := Lib.hid hGW
  have HXW := Lib.hid hxw
  have qq0 := Qt.cell hGW (Nat.lt_of_lt_of_le hpbl HB0.out.size) ((HB0.out.cell (p := ⟨pb, 0, none⟩) hpbl).trans p0)
  have qq1 := Qt.cell hGW (Nat.lt_of_lt_of_le hpbl HB0.out.size) ((HB0.out.cell (p := ⟨pb, 1, none⟩) hpbl).trans p1)
  have qq2 := Qt.cell hGW (Nat.lt_of_lt_of_le hpbl HB0.out.size) ((HB0.out.cell (p := ⟨pb, 2, none⟩) hpbl).trans p2)
  have qq3 := Qt.cell hGW (Nat.lt_of_lt_of_le hpbl HB0.out.size) ((HB0.out.cell (p := ⟨pb, 3, none⟩) hpbl).trans p3)
  have qq4 := Qt.cell hGW (Nat.lt_of_lt_of_le hpbl HB0.out.size) ((HB0.out.cell (p := ⟨pb, 4, none⟩) hpbl).trans p4)
  have qq5 := Qt.cell hGW (Nat.lt_of_lt_of_le hpbl HB0.out.size) ((HB0.out.cell (p := ⟨pb, 5, none⟩) hpbl).trans p5)
  have g1 := Qt.cell hGW (Nat.lt_of_lt_of_le hrl HB0.out.size) ((HB0.out.cell (p := ⟨rt, 1, none⟩) hrl).trans c1)
  have g2 := Qt.cell hGW (Nat.lt_of_lt_of_le hbl HB0.out.size) ((HB0.out.cell (p := ⟨b, k * 8 + 2, none⟩) hbl).trans y2)
  have g0 := Qt.cell hGW (Nat.lt_of_lt_of_le hbl HB0.out.size) ((HB0.out.cell (p := ⟨b, k * 8, none⟩) hbl).trans y0)
  have K1 := Lib.hid (calls_atT hGW (fun x => rname8_any (.agg #[.slice P1 n1 c1p, .slice P2 n2 c2p, .slice P3 n3 c3p, .slice P4 n4 c4p, .slice P5 n5 c5p, .slice P6 n6 c6p]) P.terms P.vars sy _ (GW x) ((HPR.out.below (hGW.below x)).sym) (Nat.le_refl _) HPBB.out.terms HPBB.out.vars))
  rw [hnm, hNM] at K1
  clear h hp hpo hh q1 q2 q3 hcl hat hkn hn hln hse hdn ih hW hb0 ha0 hRW hpb hnz hnm hNM hlk0 hGW hxw
  go_enter Tryz.func34, Tryz.ntmps34
  go_upto_region 1 with (fail)
  rw [HW.out, HPB.out]
  go_wp2_with fail
  rw [HXW.out]
  refine Qt.start HGW.out (by kernel_rfl) (by kernel_rfl) ?_
  repeat (go_big_quiet_step (first | with_reducible exact K1.out _))
  refine wpQuiet_nil ?_
  intro _ hw'
  obtain ⟨y, hw''⟩ := hw'
  subst hw''
  have HBY := Lib.hid (HB0.out.trans ((HGW.out.below y).mono HB0.out.size))
  cases lf with
  | true =>
   go_wp2_with fail
   go_ret
   have hK : K = [] := HLK.out (by simp)
   exact ⟨by rw [HSE.out, hK, ← HNMS.out]; simp, HBW0.out.trans (HBY.out.mono HBW0.out.size)⟩
  | false =>
   have hS0 : (⟨#[40]⟩ ++ NM : ByteArray) = str (Tr.shown P (nds S) nm (K.take 0)) := by
    unfold Tr.shown
    rw [List.take_zero, List.flatMap_nil, List.append_nil, ← HNMS.out, show (40 : UInt8) :: nm = [40] ++ nm from rfl, str_appS]; rfl
   have HS0 := Lib.hid hS0
   clear hS0
   have hq1 : ¬ 9223372036854775807 < (⟨#[40]⟩ : ByteArray).size + NM.size := by show ¬ 9223372036854775807 < 1 + NM.size; omega
   have hq2 : ¬ 9223372036854775807 < 1 + NM.size := by omega
   have hadd : ∀ w, (Op.stringOp .add ⟨#[40]⟩ NM).run Tryz.prog w = .ok (.string (⟨#[40]⟩ ++ NM)) w := fun w => run_string_add_sum w _ _ (by show 1 + NM.size ≤ 9223372036854775807; omega)
   go_wp2_with fail
   go_loopw [7, 8] (fun sv q wr => ∃ (p : Nat) (X : ByteArray), p ≤ kn ∧ q = .int .i64 (p : Int) ∧ sv = .string X ∧ X = str (Tr.shown P (nds S) nm (K.take p)) ∧ Below W.heap.size W wr) (fun _ q _ => kn - (intOf q).toNat)
   case atStart => exact ⟨0, _, by omega, rfl, rfl, HS0.out, HBY.out⟩
   case round =>
    obtain ⟨p, X, hp, rfl, rfl, hX, hb⟩ := hrel
    have HX := Lib.hid hX
    have HB := Lib.hid hb
    have hXl : X.size ≤ 3000000000 := by
     rw [hX, ← bl_length, bl_str]
     have h1 := Tr.shown_len HGD.out HNZ.out HLL.out hnl (K.take p)
     rw [List.length_take] at h1
     omega
    have d1 := (hb.cell (p := ⟨rt, 1, none⟩) hrl).trans c1
    have d6 := (hb.cell (p := ⟨b, k * 8 + 6, none⟩) hbl).trans y6
    have hbs := hb.size
    have hrw : rt < wr.heap.size := by omega
    have hbw : b < wr.heap.size := by omega
    clear hX hb
    by_cases hlt2 : p < kn
    case pos =>
     have hpi : (p : Int) < (kn : Int) := by omega
     have hp0 : (0 : Int) ≤ (p : Int) := by omega
     obtain ⟨x, hx⟩ : ∃ x, K[p]? = some x := ⟨_, List.getElem?_eq_getElem (by rw [HKN.out]; exact hlt2)⟩
     obtain ⟨b9, o9, hKA9, hbl9, hc9⟩ := lie_at (HK.out.below HB.out) hx
     rw [hKA9] at d6
     have hxd := HDN.out x (List.mem_of_getElem? hx)
     have hnx : str (Tr.shown P (nds S) nm (K.take (p + 1))) = X ++ ⟨#[32]⟩ ++ str (Tr.show_ P (nds S) x) := by
      rw [HX.out, take_snocT hx]
      unfold Tr.shown
      rw [List.flatMap_append, List.flatMap_cons, List.flatMap_nil, List.append_nil, ← List.append_assoc, str_appS, show (32 : UInt8) :: Tr.show_ P (nds S) x = [32] ++ Tr.show_ P (nds S) x from rfl, str_appS [32], ← ByteArray.append_assoc]; rfl
     have hyl := HGD.out.show_len HNZ.out HLL.out x
     obtain ⟨SX, hSX⟩ : ∃ z, str (Tr.show_ P (nds S) x) = z := ⟨_, rfl⟩
     have hsz2 : SX.size ≤ 2006004 := by rw [← hSX, ← bl_length, bl_str]; exact hyl
     rw [hSX] at hnx
     have HNX := Lib.hid hnx
     have hadd1 : ∀ w, (Op.stringOp .add X ⟨#[32]⟩).run Tryz.prog w = .ok (.string (X ++ ⟨#[32]⟩)) w := fun w => run_string_add_sum w _ _ (by show X.size + 1 ≤ 9223372036854775807; omega)
     have hX2 : (X ++ ⟨#[32]⟩ : ByteArray).size ≤ 3000000001 := by rw [ByteArray.size_append]; show X.size + 1 ≤ _; omega
     obtain ⟨GW, hGW⟩ := Qt.class_of wr.heap.size wr (Nat.le_refl _)
     obtain ⟨xw, hxw⟩ := hGW.onto wr (Below.refl _ _)
     have HGW := Lib.hid hGW
     have HXW := Lib.hid hxw
     have qq0 := Qt.cell hGW (Nat.lt_of_lt_of_le hpbl HB.out.size) ((HB.out.cell (p := ⟨pb, 0, none⟩) hpbl).trans p0)
     have qq1 := Qt.cell hGW (Nat.lt_of_lt_of_le hpbl HB.out.size) ((HB.out.cell (p := ⟨pb, 1, none⟩) hpbl).trans p1)
     have qq2 := Qt.cell hGW (Nat.lt_of_lt_of_le hpbl HB.out.size) ((HB.out.cell (p := ⟨pb, 2, none⟩) hpbl).trans p2)
     have qq3 := Qt.cell hGW (Nat.lt_of_lt_of_le hpbl HB.out.size) ((HB.out.cell (p := ⟨pb, 3, none⟩) hpbl).trans p3)
     have qq4 := Qt.cell hGW (Nat.lt_of_lt_of_le hpbl HB.out.size) ((HB.out.cell (p := ⟨pb, 4, none⟩) hpbl).trans p4)
     have qq5 := Qt.cell hGW (Nat.lt_of_lt_of_le hpbl HB.out.size) ((HB.out.cell (p := ⟨pb, 5, none⟩) hpbl).trans p5)
     have g1 := Qt.cell hGW hrw d1
     have g6 := Qt.cell hGW hbw d6
     have g9 := Qt.cell hGW hbl9 hc9
     have hadd2 : ∀ w, (Op.stringOp .add (X ++ ⟨#[32]⟩) SX).run Tryz.prog w = .ok (.string (X ++ ⟨#[32]⟩ ++ SX)) w := fun w => run_string_add_sum w _ _ (by omega)
     have K1 := Lib.hid (calls_atT hGW (fun z => HIH.out x (by omega) (GW z) (HRF.out.below (HB.out.trans ((hGW.below z).mono HB.out.size))) (HPR.out.below (HB.out.trans ((hGW.below z).mono HB.out.size)))))
     rw [hSX] at K1
     clear hx hxd hKA9 hnx hyl hSX
     clear hGW hxw
     go_wp2_with fail
     rw [HXW.out]
     refine Qt.start HGW.out (by kernel_rfl) (by kernel_rfl) ?_
     repeat (go_big_quiet_step (first | with_reducible exact K1.out _))
     refine wpQuiet_nil ?_
     intro _ hw'
     obtain ⟨y, hw''⟩ := hw'
     subst hw''
     have HBY := Lib.hid (HB.out.trans ((HGW.out.below y).mono HB.out.size))
     go_wp2_with fail
     go_roundw
     case rel => exact ⟨p + 1, _, by omega, by go_num, rfl, HNX.out.symm, HBY.out⟩
     case measure => simp [intOf]; omega
    case neg =>
     obtain rfl : kn = p := by omega
     have hfin : str (Tr.show_ P (nds S) (k : Int)) = X ++ ⟨#[41]⟩ := by
      rw [HSE.out, HX.out, List.take_of_length_le (by rw [HKN.out]; exact Nat.le_refl _), ← List.append_assoc, str_appS]
      unfold Tr.shown
      simp
      rfl
     have HFIN := Lib.hid hfin
     have hadd1 : ∀ w, (Op.stringOp .add X ⟨#[41]⟩).run Tryz.prog w = .ok (.string (X ++ ⟨#[41]⟩)) w := fun w => run_string_add_sum w _ _ (by show X.size + 1 ≤ 9223372036854775807; omega)
     clear hfin hlt2
     go_wp2_with fail
     go_ret
     exact ⟨by rw [HFIN.out]; rfl, HBW0.out.trans (HB.out.mono HBW0.out.size)⟩
theorem rshow_any (pv : Value) (P : Nm.Plan) (i : Int) (w : World) (B rt rm : Nat) (l m : Int) (v : Value) (S : List Sl) (h : RefIs w B rt rm l m v S) (hp : PlanR w pv P) (hG : Tr.Good (nds S)) (hL : (nds S).length ≤ 1000) (hb : PlanB P) :
  Calls Tryz.prog 34 #[.pointer (some ⟨rt, 0, none⟩), pv, .int .i64 i] w fun e w' => e = .returned (.string (str (Tr.show_ P (nds S) i))) ∧ Below w.heap.size w w' :=
 rshow_all pv P B rt rm l m v S hG hL hb (i.toNat + 1) i (by omega) w h hp
end Go.Proofs.YtdhhkancbgealaaGreat
end
