import Derived.Test.YtdhhkancbgealaaGreatT34
import Derived.Test.YtdhhkancbgealaaGreatT36
import Derived.Test.YtdhhkancbgealaaGreatT14
import Derived.Test.YtdhhkancbgealaaGreatT31
namespace Go.Proofs.YtdhhkancbgealaaGreat
open Go.RowKit Go.Shelf
open Lx
set_option linter.unusedVariables false
set_option linter.unusedSimpArgs false
set_option maxRecDepth 100000
theorem sizeRef18 : (Tryz.prog.info? 56).map (·.size) = some 8 := by kernel_rfl
set_option maxHeartbeats 8000000 in
theorem rat_any (i : Int) (w : World) (B rt rm : Nat) (l m : Int) (v : Value) (S : List Sl) (h : RefIs w B rt rm l m v S) :
  Calls Tryz.prog 19 #[.pointer (some ⟨rt, 0, none⟩), .int .i64 i] w fun e w' => e = .returned (.agg (slAt S i).rc.toArray) ∧ Below w.heap.size w w' := by
 obtain ⟨W, hW⟩ : ∃ W, w.alloc (.cells #[.bool false, .int .i64 0, .int .i64 0, .int .i64 0, .int .i64 0, .int .i64 0, .slice none 0 0, .bool false] 56) = W := ⟨_, rfl⟩
 have hbW : Below w.heap.size w W := by rw [← hW]; exact (Below.refl w.heap.size w).alloc (Nat.le_refl _) _
 have hR : At W w.heap.size 56 #[.bool false, .int .i64 0, .int .i64 0, .int .i64 0, .int .i64 0, .int .i64 0, .slice none 0 0, .bool false] := by rw [← hW]; exact At.new _ _ _
 have hrl := h.at_.lt
 have HW := Lib.hid hW
 have HR := Lib.hid hR
 have HBW := Lib.hid hbW
 have hsz := h.size
 have hRl := hR.lt
 cases hh : Tr.has (nds S) i with
 | true =>
  obtain ⟨s, q1, q2, q3⟩ := slAt_mem hh
  rw [q2]
  obtain ⟨k, rfl⟩ : ∃ k : Nat, i = (k : Int) := ⟨i.toNat, by omega⟩
  rw [Int.toNat_natCast] at q1
  obtain ⟨b, cap, rfl, hlt, hbl, hcl, _⟩ := h.cells q1
  have c1 := h.at_.cell 1
  simp only [List.getElem?_toArray, List.getElem?_cons_zero, List.getElem?_cons_succ] at c1
  obtain ⟨n, hn⟩ : ∃ n, S.length = n := ⟨_, rfl⟩
  rw [hn] at c1 hlt hsz
  have y0 := hcl 0 _ (by omega) rfl
  have y1 := hcl 1 _ (by omega) rfl
  have y2 := hcl 2 _ (by omega) rfl
  have y3 := hcl 3 _ (by omega) rfl
  have y4 := hcl 4 _ (by omega) rfl
  have y5 := hcl 5 _ (by omega) rfl
  have y6 := hcl 6 _ (by omega) rfl
  have y7 := hcl 7 _ (by omega) rfl
  simp only [Nat.add_zero] at y0
  show Calls _ _ _ _ fun e w' => e = .returned (.agg #[.bool s.x.leaf, .int .i64 s.x.rule, .int .i64 s.x.sym, .int .i64 s.x.tok.t, .int .i64 s.x.tok.a, .int .i64 s.x.tok.b, .slice s.A s.x.kids.length s.c, .bool s.x.under]) ∧ Below w.heap.size w w'
  unfold Sl.kv at y6
  obtain ⟨⟨x0, x1, x2, x3, ⟨x4, x5, x6⟩, x7⟩, sa, sc⟩ := s
  dsimp only at y0 y1 y2 y3 y4 y5 y6 y7 ⊢
  generalize x7.length = kn at y6 ⊢
  have hk0 : (0 : Int) ≤ (k : Int) := by omega
  have hk1 : ¬ (k : Int) < 0 := by omega
  have hkn : (k : Int) < (n : Int) := by omega
  have hkn2 : ¬ (n : Int) ≤ (k : Int) := by omega
  clear h hh q1 q2 q3 hcl hn hW hR hbW
  go_enter Tryz.func19, Tryz.ntmps19
  go_wp2_with (rw [HW.out]; refine wpList_store_at rfl _ _ _ rfl rfl w.heap.size _ _ [_, _, _, _, _, _, _, _] rfl rfl HR.out 8 sizeRef18 rfl rfl rfl ?_; intro w3 hA3 hg3)
  refine bodyPost_ret (results_cell_row rfl _ _ w.heap.size _ _ (0, 0) _ rfl hA3 Tryz.underlying56 rfl sizeRef18) rfl ⟨rfl, below_grown HBW.out hg3 HBW.out.size (Nat.le_refl _)⟩
 | false =>
  rw [slAt_out hh]
  have hno := Tr.has_false hh
  rw [nds_len] at hno
  obtain ⟨ao, cap, rfl⟩ := own_form h.own
  have c1 := h.at_.cell 1
  simp only [List.getElem?_toArray, List.getElem?_cons_zero, List.getElem?_cons_succ] at c1
  obtain ⟨n, hn⟩ : ∃ n, S.length = n := ⟨_, rfl⟩
  rw [hn] at c1 hno hsz
  show Calls _ _ _ _ fun e w' => e = .returned (.agg #[.bool false, .int .i64 (-1), .int .i64 (-1), .int .i64 0, .int .i64 0, .int .i64 0, .slice none 0 0, .bool false]) ∧ Below w.heap.size w w'
  clear h hh hn hW hR hbW
  by_cases h0 : i < 0
  ·go_enter Tryz.func19, Tryz.ntmps19
   go_wp2_with (rw [HW.out]; refine wpList_store_at rfl _ _ _ rfl rfl w.heap.size _ _ [_, _, _, _, _, _, _, _] rfl rfl HR.out 8 sizeRef18 rfl rfl rfl ?_; intro w3 hA3 hg3)
   refine bodyPost_ret (results_cell_row rfl _ _ w.heap.size _ _ (0, 0) _ rfl hA3 Tryz.underlying56 rfl sizeRef18) rfl ⟨rfl, below_grown HBW.out hg3 HBW.out.size (Nat.le_refl _)⟩
  ·have h1 : (n : Int) ≤ i := by omega
   go_enter Tryz.func19, Tryz.ntmps19
   go_wp2_with (rw [HW.out]; refine wpList_store_at rfl _ _ _ rfl rfl w.heap.size _ _ [_, _, _, _, _, _, _, _] rfl rfl HR.out 8 sizeRef18 rfl rfl rfl ?_; intro w3 hA3 hg3)
   refine bodyPost_ret (results_cell_row rfl _ _ w.heap.size _ _ (0, 0) _ rfl hA3 Tryz.underlying56 rfl sizeRef18) rfl ⟨rfl, below_grown HBW.out hg3 HBW.out.size (Nat.le_refl _)⟩
theorem Tr.Good.below_eq {L : List Tr.Nd} (h : Tr.Good L) {i : Int} (hi : Tr.has L i = true) : Tr.below L i = ((Tr.kidsOf L i).flatMap fun k => Tr.below L k) ++ [i] := by
 rw [Tr.below_has hi, Tr.Bel_eq h.down]
 congr 1
 rw [List.flatMap, List.flatMap]
 congr 1
 refine List.map_congr_left fun k hk => ?_
 rw [Tr.below_has (h.kid_has hk)]
theorem Tr.Good.below_len {L : List Tr.Nd} (h : Tr.Good L) (i : Int) : (Tr.below L i).length ≤ L.length + 1 := by
 have := h.bel_len i
 unfold Tr.below
 split
 ·exact this
 ·simp
theorem vals_app (l m : List Int) : vals (l ++ m) = vals l ++ vals m := by simp [vals]
theorem Tr.Good.kids_lenR {L : List Tr.Nd} (h : Tr.Good L) (i : Int) : (Tr.kidsOf L i).length ≤ L.length :=
 Tr.nodup_len _ _ (List.nodup_iff_count.2 fun x => by rw [h.kid_count]; split <;> omega) (fun k hk => Tr.has_true (h.kid_has hk))
set_option maxHeartbeats 8000000 in
theorem rbelow_all (B rt rm : Nat) (l m : Int) (v : Value) (S : List Sl) (hG : Tr.Good (nds S)) (hL : (nds S).length ≤ 1000) : ∀ (f : Nat) (i : Int), i.toNat < f → ∀ (w : World), RefIs w B rt rm l m v S →
  Calls Tryz.prog 27 #[.pointer (some ⟨rt, 0, none⟩), .int .i64 i] w fun e w' => ∃ A c, e = .returned (.slice A (Tr.below (nds S) i).length c) ∧ w'.ownsRow w.heap.size 3 1 (.slice A (Tr.below (nds S) i).length c) (Tr.below (nds S) i).length (vals (Tr.below (nds S) i)) ∧ Below w.heap.size w w' := by
 intro f
 induction f with
 | zero => intro i hi; exact absurd hi (Nat.not_lt_zero _)
 | succ f ih =>
 intro i hi w h
 have hrl := h.at_.lt
 have hsz := h.size
 cases hh : Tr.has (nds S) i with
 | false =>
  have hbe : Tr.below (nds S) i = [] := by unfold Tr.below; rw [hh]; rfl
  rw [hbe]
  have hno := Tr.has_false hh
  rw [nds_len] at hno
  obtain ⟨ao, cap, rfl⟩ := own_form h.own
  have c1 := h.at_.cell 1
  simp only [List.getElem?_toArray, List.getElem?_cons_zero, List.getElem?_cons_succ] at c1
  obtain ⟨n, hn⟩ : ∃ n, S.length = n := ⟨_, rfl⟩
  rw [hn] at c1 hno hsz
  clear h hh hn hbe ih
  by_cases h0 : i < 0
  ·go_enter Tryz.func27, Tryz.ntmps27
   go_wp2_with fail
   go_ret
   exact ⟨none, 0, rfl, World.ownsRow_nil _ _ _ _, Below.refl _ _⟩
  ·have h1 : (n : Int) ≤ i := by omega
   go_enter Tryz.func27, Tryz.ntmps27
   go_wp2_with fail
   go_ret
   exact ⟨none, 0, rfl, World.ownsRow_nil _ _ _ _, Below.refl _ _⟩
 | true =>
  obtain ⟨s, q1, q2, q3⟩ := slAt_mem hh
  obtain ⟨k, rfl⟩ : ∃ k : Nat, i = (k : Int) := ⟨i.toNat, by omega⟩
  rw [Int.toNat_natCast] at q1
  obtain ⟨b, cap, rfl, hlt, hbl, hcl, _⟩ := h.cells q1
  have c1 := h.at_.cell 1
  simp only [List.getElem?_toArray, List.getElem?_cons_zero, List.getElem?_cons_succ] at c1
  have hbe := hG.below_eq hh
  have hat : Tr.at_ (nds S) (k : Int) = s.x := Tr.at_of (nds_at q1)
  have hkl := hG.kids_lenR (k : Int)
  have hdn := hG.down (k : Int)
  unfold Tr.kidsOf at hbe hkl hdn
  rw [hat] at hbe hkl hdn
  have y6 := hcl 6 _ (by omega) rfl
  unfold Sl.kv at y6
  have HK := Lib.hid (h.kids s (List.mem_of_getElem? q1))
  obtain ⟨K, hK⟩ : ∃ K, s.x.kids = K := ⟨_, rfl⟩
  rw [hK] at hbe hkl hdn y6 HK
  obtain ⟨KA, hKA⟩ : ∃ A, s.A = A := ⟨_, rfl⟩
  rw [hKA] at y6 HK
  obtain ⟨kc, hkc⟩ : ∃ c, s.c = c := ⟨_, rfl⟩
  rw [hkc] at y6
  obtain ⟨kn, hkn⟩ : ∃ kn, K.length = kn := ⟨_, rfl⟩
  rw [hkn] at y6 hkl
  have HKN := Lib.hid hkn
  have HR := Lib.hid h
  obtain ⟨n, hn⟩ : ∃ n, S.length = n := ⟨_, rfl⟩
  have hln : (nds S).length = n := by rw [nds_len, hn]
  have HLN := Lib.hid hln
  rw [hln] at hkl hL
  rw [hn] at c1 hlt hsz
  obtain ⟨BL, hBL⟩ : ∃ x, Tr.below (nds S) (k : Int) = x := ⟨_, rfl⟩
  rw [hBL] at hbe ⊢
  have HBE := Lib.hid hbe
  have HDN := Lib.hid hdn
  have HIH := Lib.hid ih
  have HBLN := Lib.hid (fun x => hG.below_len x)
  have hk0 : (0 : Int) ≤ (k : Int) := by omega
  have hk1 : ¬ (k : Int) < 0 := by omega
  have hkn1 : (k : Int) < (n : Int) := by omega
  have hkn2 : ¬ (n : Int) ≤ (k : Int) := by omega
  obtain ⟨j0, hj0, hj1, hj2, hj3⟩ := info_parts infoIntW
  clear h hh q1 q2 q3 hcl hat hK hKA hkc hkn hn hln hBL hbe hdn ih
  go_enter Tryz.func27, Tryz.ntmps27
  go_wp2_with fail
  go_loopw [5, 6] (fun o q wr => ∃ (p : Nat) (A : Option Addr) (c : Nat) (X : List Int), p ≤ kn ∧ q = .int .i64 (p : Int) ∧ o = .slice A X.length c ∧ (K.take p).flatMap (fun k => Tr.below (nds S) k) = X ∧ X.length ≤ p * 1001 ∧ wr.ownsRow w.heap.size 3 1 (.slice A X.length c) X.length (vals X) ∧ Below w.heap.size w wr) (fun _ q _ => kn - (intOf q).toNat)
  case atStart => exact ⟨0, none, 0, [], by omega, rfl, rfl, rfl, by simp, World.ownsRow_nil _ _ _ _, Below.refl _ _⟩
  case round =>
   obtain ⟨p, A, c, X, hp, rfl, rfl, hX, hXl, ho, hb⟩ := hrel
   have HX := Lib.hid hX
   have HO := Lib.hid ho
   have HB := Lib.hid hb
   have d1 := (hb.cell (p := ⟨rt, 1, none⟩) hrl).trans c1
   have d6 := (hb.cell (p := ⟨b, k * 8 + 6, none⟩) hbl).trans y6
   have hbs := hb.size
   have hrw : rt < wr.heap.size := by omega
   have hbw : b < wr.heap.size := by omega
   obtain ⟨m0, hm0⟩ : ∃ m0, X.length = m0 := ⟨_, rfl⟩
   rw [hm0] at HO hXl ⊢
   have HM := Lib.hid hm0
   clear hX ho hb hm0
   by_cases hlt2 : p < kn
   case pos =>
    have hpi : (p : Int) < (kn : Int) := by omega
    have hp0 : (0 : Int) ≤ (p : Int) := by omega
    obtain ⟨x, hx⟩ : ∃ x, K[p]? = some x := ⟨_, List.getElem?_eq_getElem (by rw [HKN.out]; exact hlt2)⟩
    obtain ⟨b9, o9, hKA9, hbl9, hc9⟩ := lie_at (HK.out.below HB.out) hx
    rw [hKA9] at d6
    have hxd := HDN.out x (List.mem_of_getElem? hx)
    have HTA := Lib.hid (show (K.take (p + 1)).flatMap (fun k => Tr.below (nds S) k) = X ++ Tr.below (nds S) x by rw [take_snocT hx, List.flatMap_append, HX.out]; simp)
    have HCA := Lib.hid (HIH.out x (by omega) wr (HR.out.below HB.out))
    have hyl := HBLN.out x
    rw [HLN.out] at hyl
    obtain ⟨Y, hY⟩ : ∃ Y, Tr.below (nds S) x = Y := ⟨_, rfl⟩
    rw [hY] at HCA HTA hyl
    obtain ⟨yn, hyn⟩ : ∃ yn, Y.length = yn := ⟨_, rfl⟩
    rw [hyn] at HCA hyl
    have HYN := Lib.hid hyn
    clear hx hY hyn hxd hKA9
    go_wp2_with fail
    refine HCA.out.mono ?_
    rintro e w7 ⟨YA, yc, rfl, hyo, hb7⟩
    have HB7 := Lib.hid (HB.out.trans (hb7.mono HB.out.size))
    have HO7 := Lib.hid (own_below HO.out hb7 (fun k hk => (HO.out.lt k hk).2))
    have HY7 := Lib.hid (Lie.own hyo)
    clear hyo hb7 HCA
    go_wp2_with (at_builtin; (refine wpList_append_own3T _ rfl (.tmp 31) (.tmp 44) 32 rfl w.heap.size 3 j0 _ 1 8 Tryz.underlying32 hj0 hj1 hj2 hj3 rfl (by decide) _ m0 (vals X) rfl HO7.out YA yn yc (vals Y) rfl (by rw [vals_lenT, HYN.out]; omega) (LiesT_lie HY7.out) (vals_oneT _) (by unfold maxLen; omega) (by omega) HB7.out.size ?_; intro v8 w8 ho8 hg8 hn8; obtain ⟨a8, c8, rfl⟩ := own_form ho8; have hb8 := HB7.out.grown hg8 HB7.out.size (fun k hk => (HO7.out.lt k hk).1); have HO8 := Lib.hid ho8; have HB8 := Lib.hid hb8; clear ho8 hg8 hn8 hb8))
    go_roundw
    case rel =>
     refine ⟨p + 1, a8, c8, X ++ Y, by omega, by go_num, by rw [List.length_append, HM.out, HYN.out], HTA.out, by rw [List.length_append, HM.out, HYN.out]; omega, ?_, HB8.out⟩
     rw [List.length_append, HM.out, HYN.out, vals_app]; exact HO8.out
    case measure => simp [intOf]; omega
   case neg =>
    obtain rfl : kn = p := by omega
    rw [List.take_of_length_le (by rw [HKN.out]; exact Nat.le_refl _)] at HX
    have hBX : BL = X ++ [(k : Int)] := by rw [HBE.out, HX.out]
    subst hBX
    clear hlt2
    go_wp2_with (at_builtin; (refine wpList_append_own3T _ rfl (.tmp 46) (.tmp 48) 32 rfl w.heap.size 3 j0 _ 1 8 Tryz.underlying32 hj0 hj1 hj2 hj3 rfl (by decide) _ m0 (vals X) rfl (HO.out.alloc (.cells #[.int .i64 (k : Int)] 3)) (some ⟨wr.heap.size, 0, none⟩) 1 1 [.int .i64 (k : Int)] rfl rfl (LiesT_lie (lie_new wr 3 [.int .i64 (k : Int)])) (by simp [Value.oneCell']) (by unfold maxLen; omega) (by omega) (by have := HB.out.size; simp; omega) ?_; intro v8 w8 ho8 hg8 hn8; obtain ⟨a8, c8, rfl⟩ := own_form ho8; have hb8 := (HB.out.alloc HB.out.size (.cells #[.int .i64 (k : Int)] 3)).grown hg8 (by have := HB.out.size; simp; omega) (fun k hk => (HO.out.lt k hk).1); have HO8 := Lib.hid ho8; have HB8 := Lib.hid hb8; clear ho8 hg8 hn8 hb8))
    go_ret
    rw [List.length_append, HM.out]
    exact ⟨a8, c8, rfl, by rw [vals_app]; exact HO8.out, HB8.out⟩
theorem rbelow_any (i : Int) (w : World) (B rt rm : Nat) (l m : Int) (v : Value) (S : List Sl) (h : RefIs w B rt rm l m v S) (hG : Tr.Good (nds S)) (hL : (nds S).length ≤ 1000) :
  Calls Tryz.prog 27 #[.pointer (some ⟨rt, 0, none⟩), .int .i64 i] w fun e w' => ∃ A c, e = .returned (.slice A (Tr.below (nds S) i).length c) ∧ w'.ownsRow w.heap.size 3 1 (.slice A (Tr.below (nds S) i).length c) (Tr.below (nds S) i).length (vals (Tr.below (nds S) i)) ∧ Below w.heap.size w w' :=
 rbelow_all B rt rm l m v S hG hL (i.toNat + 1) i (by omega) w h
end Go.Proofs.YtdhhkancbgealaaGreat
