import Derived.Test.YtddjmhhdpfebkaaScG
import Derived.Test.YtddjmhhdpfebkaaPtD
namespace Go.Proofs.Ytddjmhhdpfebkaa
set_option maxRecDepth 100000
open Go.RowKit
set_option linter.unusedVariables false
set_option linter.unusedSimpArgs false
theorem reflen_at (p : P) (s : ByteArray) (a : Nat) (w : World) (hp : Sz p) (hs : s.size ≤ 1000) (T S : ByteArray) (m : Bool) (hT : str p.T = T) (hS : str p.S = S) (hm : p.m = m) :
  Calls Try.prog 18 #[.agg #[.string T, .string S, .bool m], .string s, .int .i64 (a : Int)] w fun e w' => e = .returned (.int .i64 (Sc.len p (bl s) a : Int)) ∧ Below w.heap.size w w' := by
 subst hT hS hm
 have h := reflen_any (str p.T) (str p.S) p.m s (a : Int) w (by rw [str_size]; have := hp.1; unfold reachBytes at this; omega) (by rw [str_size]; have := hp.2; unfold reachBytes at this; omega) (by omega)
 rw [bl_str, bl_str] at h
 exact h
set_option maxHeartbeats 8000000 in
theorem step_any (A : Option Addr) (c : Nat) (ts : List P) (Ak : Option Addr) (ck : Nat) (ks : List P) (s : ByteArray) (a : Nat) (B : Nat) (w : World) (hcl : Cl w B A (ts.flatMap Sc.tok)) (hck : Cl w B Ak (ks.flatMap Sc.cells)) (hB : B ≤ w.heap.size)
  (h20 : ts.length ≤ 1000) (h10 : ks.length ≤ 1000) (hz : ∀ p, p ∈ ts ∨ p ∈ ks → Sz p) (hsz : s.size ≤ 1000) :
  Calls Try.prog 20 #[.agg #[.slice A ts.length c, .slice Ak ks.length ck, .slice none 0 0, .string ⟨#[]⟩, .slice none 0 0], .string s, .int .i64 (a : Int)] w fun e w' => e = .returned (.tuple #[.int .i64 ((Sc.next ts ks (bl s) a).1 : Int), .int .i64 ((Sc.next ts ks (bl s) a).2 : Int)]) ∧ Below w.heap.size w w' := by
 have hat := At.new w 28 #[.slice A ts.length c, .slice Ak ks.length ck, .slice none 0 0, .string ⟨#[]⟩, .slice none 0 0]
 have hb := (Below.refl w.heap.size w).alloc (Nat.le_refl _) (.cells #[.slice A ts.length c, .slice Ak ks.length ck, .slice none 0 0, .string ⟨#[]⟩, .slice none 0 0] 28)
 obtain ⟨W, hW⟩ : ∃ W, w.alloc (.cells #[.slice A ts.length c, .slice Ak ks.length ck, .slice none 0 0, .string ⟨#[]⟩, .slice none 0 0] 28) = W := ⟨_, rfl⟩
 rw [hW] at hat hb
 have hcl1 := (hcl.below (hb.mono hB)).mono (Nat.le_trans hB hb.size)
 have hck1 := (hck.below (hb.mono hB)).mono (Nat.le_trans hB hb.size)
 obtain ⟨N, hN⟩ : ∃ N, ts.length = N := ⟨_, rfl⟩
 obtain ⟨M, hM⟩ : ∃ M, ks.length = M := ⟨_, rfl⟩
 rw [hN, hM] at hat hW ⊢
 rw [hN] at h20
 rw [hM] at h10
 have HN := Lib.hid hN
 have HM := Lib.hid hM
 obtain ⟨gb, hgb⟩ : ∃ g, g = w.heap.size := ⟨_, rfl⟩
 rw [← hgb] at hat hb
 have HAT := Lib.hid hat
 have HCL := Lib.hid hcl1
 have HCK := Lib.hid hck1
 have HW := Lib.hid hW
 have HB := Lib.hid hb
 have HGB := Lib.hid hgb
 have HZ := Lib.hid hz
 have HLE := fun n (h : n = Sc.len (⟨[], [], false⟩ : P) (bl s) a) => h
 have hle : ∀ p, Sc.len p (bl s) a ≤ 1000 := fun p => by
  have := Pt.lenAt_le (T := p.T) (S := p.S) (m := p.m) (s := bl s) (a := (a : Int))
  rw [bl_length] at this
  unfold Sc.len; omega
 have HL := Lib.hid hle
 have HNB := Lib.hid (Sc.next_by (s := bl s) (a := a) ts ks)
 obtain ⟨m1, hm1⟩ : ∃ m, Sc.most (bl s) a ts 0 = m := ⟨_, rfl⟩
 obtain ⟨m2, hm2⟩ : ∃ m, Sc.most (bl s) a ks m1 = m := ⟨_, rfl⟩
 obtain ⟨wh, hwh⟩ : ∃ m, Sc.who (bl s) a m2 0 ts = m := ⟨_, rfl⟩
 rw [hm1, hm2, hwh] at HNB
 rw [HNB.out]
 have HM1 := Lib.hid hm1
 have HM2 := Lib.hid hm2
 have HWH := Lib.hid hwh
 clear HLE hle hat hb hcl hck hcl1 hck1 hW hgb hz hN hM hm1 hm2 hwh HNB
 go_enter Try.func20, Try.ntmps20
 go_wp2_with fail
 rw [HW.out, ← HGB.out]
 go_loopw [8, 9] (fun v i wr => ∃ (k m : Nat), k ≤ N ∧ m ≤ 1000 ∧ i = .int .i64 (k : Int) ∧ v = .int .i64 (m : Int) ∧ Below W.heap.size W wr ∧ Sc.most (bl s) a (ts.drop k) m = m1) (fun _ i _ => N - (intOf i).toNat)
 case atStart => exact ⟨0, 0, by omega, by omega, rfl, rfl, Below.refl _ _, by rw [List.drop_zero]; exact HM1.out⟩
 case round =>
  obtain ⟨k, m, hk, hm, rfl, rfl, hbe, hmo⟩ := hrel
  have HBE := Lib.hid hbe
  have HMO := Lib.hid hmo
  have hat := HAT.out.below hbe HAT.out.lt
  have p0 := hat.cell 0
  have p1 := hat.cell 1
  simp only [List.getElem?_toArray, List.getElem?_cons_zero, List.getElem?_cons_succ] at p0 p1
  clear hbe hmo hat
  by_cases hlt : k < N
  ·obtain ⟨p, hp⟩ : ∃ p, ts[k]? = some p := ⟨_, List.getElem?_eq_getElem (by rw [HN.out]; exact hlt)⟩
   obtain ⟨b, o, hA, hbl, y0, y1, y2, y3⟩ := (HCL.out.below HBE.out).tok hp
   subst hA
   have hdr : ts.drop k = p :: ts.drop (k + 1) := by
    have hh := List.getElem?_eq_some_iff.1 hp
    rw [List.drop_eq_getElem_cons hh.1, hh.2]
   have HDR := Lib.hid hdr
   obtain ⟨XT, hXT⟩ : ∃ X, str p.T = X := ⟨_, rfl⟩
   obtain ⟨XS, hXS⟩ : ∃ X, str p.S = X := ⟨_, rfl⟩
   obtain ⟨xm, hxm⟩ : ∃ X, p.m = X := ⟨_, rfl⟩
   rw [hXT] at y1
   rw [hXS] at y2
   rw [hxm] at y3
   have HCA := Lib.hid (reflen_at p s a wr (HZ.out p (.inl (List.mem_of_getElem? hp))) hsz XT XS xm hXT hXS hxm)
   have hL := HL.out p
   obtain ⟨L, hLe⟩ : ∃ L, Sc.len p (bl s) a = L := ⟨_, rfl⟩
   rw [hLe] at HCA hL
   have HLE := Lib.hid hLe
   have hki : (k : Int) < (N : Int) := by omega
   have hk0 : (0 : Int) ≤ (k : Int) := by omega
   clear hp hdr hXT hXS hxm hLe y0
   go_wp2_with fail
   refine HCA.out.mono ?_
   rintro e w5 ⟨rfl, hb5⟩
   have HB5 := Lib.hid (HBE.out.trans (hb5.mono HBE.out.size))
   clear hb5
   go_wp2_with fail
   go_roundw
   case rel => exact ⟨k + 1, max m L, by omega, by omega, by go_num, congrArg (Value.int .i64) (by split <;> omega), HB5.out, by rw [← HMO.out, HDR.out, ← HLE.out]; rfl⟩
   case measure => simp [intOf]; omega
  ·obtain rfl : N = k := by omega
   have hmo := HMO.out
   rw [List.drop_of_length_le (by rw [HN.out]; omega)] at hmo
   obtain rfl : m = m1 := hmo
   clear HMO hlt
   go_wp2_with fail
   obtain ⟨w1, hw1⟩ : ∃ w1, wr = w1 := ⟨_, rfl⟩
   rw [hw1] at HBE ⊢
   clear hw1 p0 p1
   go_loopw [8, 10] (fun v i wr => ∃ (k m : Nat), k ≤ M ∧ m ≤ 1000 ∧ i = .int .i64 (k : Int) ∧ v = .int .i64 (m : Int) ∧ Below W.heap.size W wr ∧ Sc.most (bl s) a (ks.drop k) m = m2) (fun _ i _ => M - (intOf i).toNat)
   case atStart => exact ⟨0, m, by omega, hm, rfl, rfl, HBE.out, by rw [List.drop_zero]; exact HM2.out⟩
   case round =>
    clear HBE HM1 HM2 hm
    obtain ⟨k, m, hk, hm, rfl, rfl, hbe, hmo⟩ := hrel
    have HBE := Lib.hid hbe
    have HMO := Lib.hid hmo
    have hat := HAT.out.below hbe HAT.out.lt
    have p0 := hat.cell 0
    have p1 := hat.cell 1
    simp only [List.getElem?_toArray, List.getElem?_cons_zero, List.getElem?_cons_succ] at p0 p1
    clear hbe hmo hat
    by_cases hlt : k < M
    ·obtain ⟨p, hp⟩ : ∃ p, ks[k]? = some p := ⟨_, List.getElem?_eq_getElem (by rw [HM.out]; exact hlt)⟩
     obtain ⟨b, o, hA, hbl, y1, y2, y3⟩ := (HCK.out.below HBE.out).pat hp
     subst hA
     have hdr : ks.drop k = p :: ks.drop (k + 1) := by
      have hh := List.getElem?_eq_some_iff.1 hp
      rw [List.drop_eq_getElem_cons hh.1, hh.2]
     have HDR := Lib.hid hdr
     obtain ⟨XT, hXT⟩ : ∃ X, str p.T = X := ⟨_, rfl⟩
     obtain ⟨XS, hXS⟩ : ∃ X, str p.S = X := ⟨_, rfl⟩
     obtain ⟨xm, hxm⟩ : ∃ X, p.m = X := ⟨_, rfl⟩
     rw [hXT] at y1
     rw [hXS] at y2
     rw [hxm] at y3
     have HCA := Lib.hid (reflen_at p s a wr (HZ.out p (.inr (List.mem_of_getElem? hp))) hsz XT XS xm hXT hXS hxm)
     have hL := HL.out p
     obtain ⟨L, hLe⟩ : ∃ L, Sc.len p (bl s) a = L := ⟨_, rfl⟩
     rw [hLe] at HCA hL
     have HLE := Lib.hid hLe
     have hki : (k : Int) < (M : Int) := by omega
     have hk0 : (0 : Int) ≤ (k : Int) := by omega
     clear hp hdr hXT hXS hxm hLe
     go_wp2_with fail
     refine HCA.out.mono ?_
     rintro e w5 ⟨rfl, hb5⟩
     have HB5 := Lib.hid (HBE.out.trans (hb5.mono HBE.out.size))
     clear hb5
     go_wp2_with fail
     go_roundw
     case rel => exact ⟨k + 1, max m L, by omega, by omega, by go_num, congrArg (Value.int .i64) (by split <;> omega), HB5.out, by rw [← HMO.out, HDR.out, ← HLE.out]; rfl⟩
     case measure => simp [intOf]; omega
    ·obtain rfl : M = k := by omega
     have hmo := HMO.out
     rw [List.drop_of_length_le (by rw [HM.out]; omega)] at hmo
     obtain rfl : m = m2 := hmo
     clear HMO hlt
     go_wp2_with fail
     obtain ⟨w1, hw1⟩ : ∃ w1, wr = w1 := ⟨_, rfl⟩
     rw [hw1] at HBE ⊢
     clear hw1 p0 p1
     go_loopw [11] (fun i wr => ∃ (k : Nat), k ≤ N ∧ i = .int .i64 (k : Int) ∧ Below W.heap.size W wr ∧ Sc.who (bl s) a m k (ts.drop k) = wh) (fun i _ => N - (intOf i).toNat)
     case atStart => exact ⟨0, by omega, rfl, HBE.out, by rw [List.drop_zero]; exact HWH.out⟩
     case round =>
      clear HBE HWH hk
      obtain ⟨k, hk, rfl, hbe, hwo⟩ := hrel
      have HBE := Lib.hid hbe
      have HWO := Lib.hid hwo
      have hat := HAT.out.below hbe HAT.out.lt
      have p0 := hat.cell 0
      simp only [List.getElem?_toArray, List.getElem?_cons_zero, List.getElem?_cons_succ] at p0
      clear hbe hwo hat
      by_cases hlt : k < N
      ·obtain ⟨p, hp⟩ : ∃ p, ts[k]? = some p := ⟨_, List.getElem?_eq_getElem (by rw [HN.out]; exact hlt)⟩
       have hdr : ts.drop k = p :: ts.drop (k + 1) := by
        have hh := List.getElem?_eq_some_iff.1 hp
        rw [List.drop_eq_getElem_cons hh.1, hh.2]
       have hki : (k : Int) < (N : Int) := by omega
       have hk0 : (0 : Int) ≤ (k : Int) := by omega
       by_cases h0 : 0 < m
       ·have h0I : (0 : Int) < (m : Int) := by omega
        obtain ⟨b, o, hA, hbl, y0, y1, y2, y3⟩ := (HCL.out.below HBE.out).tok hp
        subst hA
        obtain ⟨XT, hXT⟩ : ∃ X, str p.T = X := ⟨_, rfl⟩
        obtain ⟨XS, hXS⟩ : ∃ X, str p.S = X := ⟨_, rfl⟩
        obtain ⟨xm, hxm⟩ : ∃ X, p.m = X := ⟨_, rfl⟩
        rw [hXT] at y1
        rw [hXS] at y2
        rw [hxm] at y3
        have HCA := Lib.hid (reflen_at p s a wr (HZ.out p (.inl (List.mem_of_getElem? hp))) hsz XT XS xm hXT hXS hxm)
        obtain ⟨L, hLe⟩ : ∃ L, Sc.len p (bl s) a = L := ⟨_, rfl⟩
        rw [hLe] at HCA
        by_cases he : L = m
        ·subst he
         have hv : wh = k + 1 := by
          rw [← HWO.out, hdr, Sc.who_cons, if_pos ⟨h0, hLe⟩]
         have HV := Lib.hid hv
         clear hv hp hdr hXT hXS hxm hLe y0 h0
         go_wp2_with fail
         refine HCA.out.mono ?_
         rintro e w5 ⟨rfl, hb5⟩
         have HB5 := Lib.hid (HBE.out.trans (hb5.mono HBE.out.size))
         clear hb5
         go_wp2_with fail
         go_ret2
         refine ⟨?_, ?_⟩
         ·rw [HV.out, Int.natCast_add]; rfl
         ·rw [← HGB.out]; exact HB.out.trans (HB5.out.mono (by have := HAT.out.lt; omega))
        ·have hv : Sc.who (bl s) a m (k + 1) (ts.drop (k + 1)) = wh := by
          rw [← HWO.out, hdr, Sc.who_cons, if_neg (by rw [hLe]; omega)]
         have HV := Lib.hid hv
         have heI : ((L : Int) == (m : Int)) = false := by rw [beq_eq_false_iff_ne]; omega
         clear hv hp hdr hXT hXS hxm hLe y0 h0 he
         go_wp2_with fail
         refine HCA.out.mono ?_
         rintro e w5 ⟨rfl, hb5⟩
         have HB5 := Lib.hid (HBE.out.trans (hb5.mono HBE.out.size))
         clear hb5
         go_wp2_with fail
         go_roundw
         case rel => exact ⟨k + 1, by omega, by go_num, HB5.out, HV.out⟩
         case measure => simp [intOf]; omega
       ·have h0I : ¬ (0 : Int) < (m : Int) := by omega
        have hv : Sc.who (bl s) a m (k + 1) (ts.drop (k + 1)) = wh := by
         rw [← HWO.out, hdr, Sc.who_cons, if_neg (by omega)]
        have HV := Lib.hid hv
        clear hv hp hdr
        go_wp2_with fail
        go_roundw
        case rel => exact ⟨k + 1, by omega, by go_num, HBE.out, HV.out⟩
        case measure => simp [intOf]; omega
      ·obtain rfl : N = k := by omega
       have hwo := HWO.out
       rw [List.drop_of_length_le (by rw [HN.out]; omega)] at hwo
       obtain rfl : 0 = wh := hwo
       clear HWO hlt
       go_wp2_with fail
       go_ret2
       refine ⟨rfl, ?_⟩
       rw [← HGB.out]; exact HB.out.trans (HBE.out.mono (by have := HAT.out.lt; omega))
end Go.Proofs.Ytddjmhhdpfebkaa
