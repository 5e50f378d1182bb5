import Derived.Test.YtddjmhhdpfebkaaScC
import Derived.Test.YtddjmhhdpfebkaaQt
namespace Go.Proofs.Ytddjmhhdpfebkaa
set_option maxRecDepth 100000
open Go.RowKit
set_option linter.unusedVariables false
set_option linter.unusedSimpArgs false
theorem Stay.keeps2 {w w' : World} {bs bt : Nat} {c1 c2 : Array Value} {ty t : TypeId} (h : Keeps [bs, bt] w w') (h1 : At w bs ty c1) (h2 : At w bt ty c2) (ht : t ≠ ty) : Stay t w w' := fun b cs hb =>
 hb.keeps h (fun hm => by
  simp only [List.mem_cons, List.not_mem_nil, or_false] at hm
  rcases hm with rfl | rfl
  ·unfold At at hb h1; rw [hb] at h1; injection h1 with h1; injection h1 with _ h1; exact ht h1
  ·unfold At at hb h2; rw [hb] at h2; injection h2 with h2; injection h2 with _ h2; exact ht h2)
theorem At.apart {w : World} {a b : Nat} {t t' : TypeId} {c1 c2 : Array Value} (h1 : At w a t c1) (h2 : At w b t' c2) (ht : t ≠ t') : a ≠ b := by
 rintro rfl
 unfold At at h1 h2
 rw [h1] at h2; injection h2 with h2; injection h2 with _ h2; exact ht h2
theorem keeps_below {S : List Nat} {w w' : World} (h : Below w.heap.size w w') : Keeps S w w' := ⟨h.os, h.tape, h.output, h.size, fun k hk _ => h.block k hk⟩
set_option maxHeartbeats 4000000 in
theorem clo_any (x : Nat) (p : P) (g bc bs bt a t n : Nat) (s : ByteArray) (cs : Array Value) (w : World) (hp : Sz p) (hsz : s.size ≤ 9223372036854775807)
  (hc : At w bc 37 #[.pointer (some ⟨g, 0, none⟩)]) (hg : At w g 59 cs) (h0 : cs[0]? = some (.string s)) (h3 : cs[3]? = some (.int .i64 (a : Int)))
  (hbs : At w bs 3 #[.int .i64 (n : Int)]) (hbt : At w bt 3 #[.int .i64 (t : Int)]) (hne : bs ≠ bt) :
  Calls Try.prog 25 #[.int .i64 (x : Int), .agg #[.string (str p.T), .string (str p.S), .bool p.m], .pointer (some ⟨bc, 0, none⟩), .pointer (some ⟨bs, 0, none⟩), .pointer (some ⟨bt, 0, none⟩)] w fun e w' =>
   e = .returned (.tuple #[]) ∧ (At w' bs 3 #[.int .i64 ((Sc.step (t, n) x (Sc.len p (bl s) a)).2 : Int)] ∧ At w' bt 3 #[.int .i64 ((Sc.step (t, n) x (Sc.len p (bl s) a)).1 : Int)]) ∧ Keeps [bs, bt] w w' := by
 have hT : (str p.T).size ≤ 9223372036854775807 := by rw [str_size]; have := hp.1; unfold reachBytes at this; omega
 have hS : (str p.S).size ≤ 9223372036854775807 := by rw [str_size]; have := hp.2; unfold reachBytes at this; omega
 have KL0 := fun w => len_any (str p.T) (str p.S) p.m s (a : Int) w hT hS hsz
 rw [bl_str, bl_str] at KL0
 unfold Sc.len
 obtain ⟨L, hL⟩ : ∃ L, Pt.lenAt p.T p.S p.m (bl s) (a : Int) = L := ⟨_, rfl⟩
 rw [hL] at KL0 ⊢
 obtain ⟨XT, hXT⟩ : ∃ X, str p.T = X := ⟨_, rfl⟩
 obtain ⟨XS, hXS⟩ : ∃ X, str p.S = X := ⟨_, rfl⟩
 obtain ⟨xm, hxm⟩ : ∃ X, p.m = X := ⟨_, rfl⟩
 unfold patV at KL0
 rw [hXT, hXS, hxm] at KL0
 rw [hXT, hXS, hxm]
 have hA := At.new w 48 #[.string XT, .string XS, .bool xm]
 have hB := (Below.refl w.heap.size w).alloc (Nat.le_refl _) (.cells #[.string XT, .string XS, .bool xm] 48)
 have hc' := hc.alloc (.cells #[.string XT, .string XS, .bool xm] 48)
 have hg' := hg.alloc (.cells #[.string XT, .string XS, .bool xm] 48)
 have hbs' := hbs.alloc (.cells #[.string XT, .string XS, .bool xm] 48)
 have hbt' := hbt.alloc (.cells #[.string XT, .string XS, .bool xm] 48)
 obtain ⟨W, hW⟩ : ∃ W, w.alloc (.cells #[.string XT, .string XS, .bool xm] 48) = W := ⟨_, rfl⟩
 rw [hW] at hA hB hc' hg' hbs' hbt'
 obtain ⟨G, hG⟩ := Qt.class_of W.heap.size W (Nat.le_refl _)
 obtain ⟨x0, hx0⟩ := hG.onto W (Below.refl _ _)
 obtain ⟨gp, hgp⟩ : ∃ g, g = w.heap.size := ⟨_, rfl⟩
 rw [← hgp] at hA
 have k0 := Qt.cell hG hA.lt ((hA.cell 0).trans rfl)
 have k1 := Qt.cell hG hA.lt ((hA.cell 1).trans rfl)
 have k2 := Qt.cell hG hA.lt ((hA.cell 2).trans rfl)
 have kc := Qt.cell hG hc'.lt ((hc'.cell 0).trans rfl)
 have ks := Qt.cell hG hg'.lt ((hg'.cell 0).trans h0)
 have ka := Qt.cell hG hg'.lt ((hg'.cell 3).trans h3)
 have kn := Qt.cell hG hbs'.lt ((hbs'.cell 0).trans rfl)
 have AS := Lib.hid (fun x => hbs'.below (hG.below x) hbs'.lt)
 have AT := Lib.hid (fun x => hbt'.below (hG.below x) hbt'.lt)
 have KE := Lib.hid (fun x => keeps_below (S := [bs, bt]) (hB.trans ((hG.below x).mono hB.size)))
 have HG : Hid (Qt.Class W.heap.size (G x0) G) := Lib.hid (by rw [← hx0]; exact hG)
 have KL := Lib.hid (Qt.calls HG.out KL0)
 have HW := Lib.hid (hW.trans hx0)
 have HGP := Lib.hid hgp
 clear hA hB hc hg hbs hbt hc' hg' hbs' hbt' hW hx0 hG KL0 hL hXT hXS hxm hT hS hp hsz hgp h0 h3
 go_enter Try.func25, Try.ntmps25
 go_wp2_with fail
 rw [HW.out, ← HGP.out]
 refine Qt.start HG.out (by kernel_rfl) (by kernel_rfl) ?_
 repeat (go_big_quiet_step (with_reducible exact KL.out _))
 refine wpQuiet_nil ?_
 intro _ hw'
 obtain ⟨z, hw''⟩ := hw'
 subst hw''
 have fs := (AS.out z).frozen 0
 have ft := (AT.out z).frozen 0
 have kt := (AT.out z).cell 0
 simp only [List.getElem?_toArray, List.getElem?_cons_zero] at kt
 by_cases hlt : n < L
 ·have hltI : (n : Int) < (L : Int) := by omega
  have e : Sc.step (t, n) x L = (x, L) := if_pos hlt
  have HE := Lib.hid e
  clear e hlt
  go_wp2_with fail
  go_end0
  rw [HE.out]
  refine ⟨rfl, ⟨by simpa using ((AS.out z).far (p := ⟨bt, 0, none⟩) (fun e => hne e) _).set 0 (.int .i64 (L : Int)), by simpa using ((AT.out z).set 0 (.int .i64 (x : Int))).far (p := ⟨bs, 0, none⟩) (fun e => hne e.symm) _⟩, ?_⟩
  exact ((KE.out z).set (p := ⟨bt, 0, none⟩) (.inl (by simp)) _).set (p := ⟨bs, 0, none⟩) (.inl (by simp)) _
 ·have hltI : ¬ (n : Int) < (L : Int) := by omega
  have e : Sc.step (t, n) x L = (t, n) := if_neg hlt
  have HE := Lib.hid e
  clear e hlt
  go_wp2_with fail
  go_end0
  rw [HE.out]
  exact ⟨rfl, ⟨AS.out z, AT.out z⟩, KE.out z⟩
theorem clo_at (xi : Int) (x : Nat) (hx : xi = (x : Int)) (p : P) (g bc bs bt a t n : Nat) (s : ByteArray) (cs : Array Value) (w : World) (hp : Sz p) (hsz : s.size ≤ 9223372036854775807)
  (hc : At w bc 37 #[.pointer (some ⟨g, 0, none⟩)]) (hg : At w g 59 cs) (h0 : cs[0]? = some (.string s)) (h3 : cs[3]? = some (.int .i64 (a : Int)))
  (hbs : At w bs 3 #[.int .i64 (n : Int)]) (hbt : At w bt 3 #[.int .i64 (t : Int)]) (hne : bs ≠ bt) (T S : ByteArray) (m : Bool) (hT : str p.T = T) (hS : str p.S = S) (hm : p.m = m) :
  Calls Try.prog 25 #[.int .i64 xi, .agg #[.string T, .string S, .bool m], .pointer (some ⟨bc, 0, none⟩), .pointer (some ⟨bs, 0, none⟩), .pointer (some ⟨bt, 0, none⟩)] w fun e w' =>
   e = .returned (.tuple #[]) ∧ (At w' bs 3 #[.int .i64 ((Sc.step (t, n) x (Sc.len p (bl s) a)).2 : Int)] ∧ At w' bt 3 #[.int .i64 ((Sc.step (t, n) x (Sc.len p (bl s) a)).1 : Int)]) ∧ Keeps [bs, bt] w w' := by
 subst hx hT hS hm
 exact clo_any x p g bc bs bt a t n s cs w hp hsz hc hg h0 h3 hbs hbt hne
structure Kept (w : World) (bs bt : Nat) (x : Nat × Nat) : Prop where
 size : At w bs 3 #[.int .i64 (x.2 : Int)]
 term : At w bt 3 #[.int .i64 (x.1 : Int)]
set_option maxHeartbeats 8000000 in
theorem each_any (g bc bs bt a k0 : Nat) (s : ByteArray) (ts ks : List P) (w : World) (hz : ∀ p, p ∈ ts ∨ p ∈ ks → Sz p) (hsz : s.size ≤ 9223372036854775807) (h20 : ts.length ≤ 1000) (h10 : ks.length ≤ 1000)
  (hc : At w bc 37 #[.pointer (some ⟨g, 0, none⟩)]) (hg : IsSc w g s ts ks a k0) (hk : Kept w bs bt (0, 0)) (hne : bs ≠ bt) :
  Calls Try.prog 24 #[.pointer (some ⟨g, 0, none⟩), .func (.func 25) #[] #[.pointer (some ⟨bc, 0, none⟩), .pointer (some ⟨bs, 0, none⟩), .pointer (some ⟨bt, 0, none⟩)]] w fun e w' =>
   e = .returned (.tuple #[]) ∧ Kept w' bs bt (Sc.next ts ks (bl s) a) ∧ Keeps [bs, bt] w w' := by
 obtain ⟨A1, c1, A2, c2, hat, hl1, hl2⟩ := hg.ex
 obtain ⟨N, hN⟩ : ∃ N, ts.length = N := ⟨_, rfl⟩
 obtain ⟨M, hM⟩ : ∃ M, ks.length = M := ⟨_, rfl⟩
 rw [hN, hM] at hat
 rw [hN] at h20
 rw [hM] at h10
 have HN := Lib.hid hN
 have HM := Lib.hid hM
 have HC := Lib.hid hc
 have HG := Lib.hid hat
 have HL1 := Lib.hid hl1
 have HL2 := Lib.hid hl2
 have HK := Lib.hid hk
 have HZ := Lib.hid hz
 have hst : ∀ w', Keeps [bs, bt] w w' → ∀ t, t ≠ 3 → Stay t w w' := fun w' h t ht => Stay.keeps2 h HK.out.size HK.out.term ht
 have HST := Lib.hid hst
 have x1 := hat.cell 1
 have x2 := hat.cell 2
 simp only [List.getElem?_toArray, List.getElem?_cons_zero, List.getElem?_cons_succ] at x1 x2
 clear hat hl1 hl2 hc hg hk hz hst hN hM
 go_enter Try.func24, Try.ntmps24
 go_wp2_with fail
 go_loopw [13] (fun i wr => ∃ (k : Nat) (x : Nat × Nat), k ≤ N ∧ i = .int .i64 (k : Int) ∧ Kept wr bs bt x ∧ Keeps [bs, bt] w wr ∧ Sc.goT (bl s) a k (ts.drop k) x = Sc.goT (bl s) a 0 ts (0, 0)) (fun i _ => N - (intOf i).toNat)
 case atStart => exact ⟨0, (0, 0), by omega, rfl, HK.out, Keeps.refl _ _, by rw [List.drop_zero]⟩
 case round =>
  obtain ⟨k, x, hk, rfl, hkx, hke, hgo⟩ := hrel
  have HKX := Lib.hid hkx
  have HKE := Lib.hid hke
  have HGO := Lib.hid hgo
  clear hkx hke hgo x1 x2
  by_cases hlt : k < N
  ·obtain ⟨p, hp⟩ : ∃ p, ts[k]? = some p := ⟨_, List.getElem?_eq_getElem (by rw [HN.out]; exact hlt)⟩
   obtain ⟨b, o, hA, hbl, y0, y1, y2⟩ := ((HL1.out.stay (HST.out _ HKE.out _ (by decide))).cl).pat hp
   subst hA
   have hdr : ts.drop k = p :: ts.drop (k + 1) := by
    have hh := List.getElem?_eq_some_iff.1 hp
    rw [List.drop_eq_getElem_cons hh.1, hh.2]
   have HDR := Lib.hid hdr
   have HP := Lib.hid (HZ.out p (.inl (List.mem_of_getElem? hp)))
   obtain ⟨XT, hXT⟩ : ∃ X, str p.T = X := ⟨_, rfl⟩
   obtain ⟨XS, hXS⟩ : ∃ X, str p.S = X := ⟨_, rfl⟩
   obtain ⟨xm, hxm⟩ : ∃ X, p.m = X := ⟨_, rfl⟩
   rw [hXT] at y0
   rw [hXS] at y1
   rw [hxm] at y2
   have HXT := Lib.hid hXT
   have HXS := Lib.hid hXS
   have HXM := Lib.hid hxm
   have hki : (k : Int) < (N : Int) := by omega
   have hk0 : (0 : Int) ≤ (k : Int) := by omega
   have HCA := Lib.hid (clo_at ((k : Int) + 1) (k + 1) (by omega) p g bc bs bt a x.1 x.2 s _ (wr.alloc (.cells #[.string XT, .string XS, .bool xm] 48)) HP.out hsz
    ((HST.out _ HKE.out _ (by decide) _ _ HC.out).alloc _) ((HST.out _ HKE.out _ (by decide) _ _ HG.out).alloc _) rfl rfl (HKX.out.size.alloc _) (HKX.out.term.alloc _) hne XT XS xm HXT.out HXS.out HXM.out)
   have HKE1 := Lib.hid (HKE.out.alloc (.cells #[.string XT, .string XS, .bool xm] 48))
   clear hp hdr hXT hXS hxm
   go_wp2_with fail
   refine HCA.out.mono ?_
   rintro e w5 ⟨rfl, ⟨hs5, ht5⟩, hk5⟩
   have HK5 := Lib.hid (Kept.mk hs5 ht5)
   have HKE5 := Lib.hid (HKE1.out.trans hk5)
   clear hs5 ht5 hk5
   go_wp2_with fail
   go_roundw
   case rel => exact ⟨k + 1, _, by omega, by go_num, HK5.out, HKE5.out, by rw [← HGO.out, HDR.out]; rfl⟩
   case measure => simp [intOf]; omega
  ·obtain rfl : N = k := by omega
   have hgo := HGO.out
   rw [List.drop_of_length_le (by rw [HN.out]; omega)] at hgo
   have HGO1 := Lib.hid (show x = Sc.goT (bl s) a 0 ts (0, 0) from hgo)
   have hat2 := HST.out _ HKE.out _ (by decide) _ _ HG.out
   have x1 := hat2.cell 1
   have x2 := hat2.cell 2
   simp only [List.getElem?_toArray, List.getElem?_cons_zero, List.getElem?_cons_succ] at x1 x2
   clear hgo HGO hat2 hlt
   go_wp2_with fail
   obtain ⟨w1, hw1⟩ : ∃ w1, wr = w1 := ⟨_, rfl⟩
   rw [hw1] at HKX HKE ⊢
   clear hw1
   go_loopw [29] (fun i wr => ∃ (k : Nat) (y : Nat × Nat), k ≤ M ∧ i = .int .i64 (k : Int) ∧ Kept wr bs bt y ∧ Keeps [bs, bt] w wr ∧ Sc.goK (bl s) a (ks.drop k) y = Sc.next ts ks (bl s) a) (fun i _ => M - (intOf i).toNat)
   case atStart => exact ⟨0, x, by omega, rfl, HKX.out, HKE.out, by rw [List.drop_zero, HGO1.out]; rfl⟩
   case round =>
    clear HKX HKE HGO1
    obtain ⟨k, x, hk, rfl, hkx, hke, hgo⟩ := hrel
    have HKX := Lib.hid hkx
    have HKE := Lib.hid hke
    have HGO := Lib.hid hgo
    clear hkx hke hgo x1 x2
    by_cases hlt : k < M
    ·obtain ⟨p, hp⟩ : ∃ p, ks[k]? = some p := ⟨_, List.getElem?_eq_getElem (by rw [HM.out]; exact hlt)⟩
     obtain ⟨b, o, hA, hbl, y0, y1, y2⟩ := ((HL2.out.stay (HST.out _ HKE.out _ (by decide))).cl).pat hp
     subst hA
     have hdr : ks.drop k = p :: ks.drop (k + 1) := by
      have hh := List.getElem?_eq_some_iff.1 hp
      rw [List.drop_eq_getElem_cons hh.1, hh.2]
     have HDR := Lib.hid hdr
     have HP := Lib.hid (HZ.out p (.inr (List.mem_of_getElem? hp)))
     obtain ⟨XT, hXT⟩ : ∃ X, str p.T = X := ⟨_, rfl⟩
     obtain ⟨XS, hXS⟩ : ∃ X, str p.S = X := ⟨_, rfl⟩
     obtain ⟨xm, hxm⟩ : ∃ X, p.m = X := ⟨_, rfl⟩
     rw [hXT] at y0
     rw [hXS] at y1
     rw [hxm] at y2
     have HXT := Lib.hid hXT
     have HXS := Lib.hid hXS
     have HXM := Lib.hid hxm
     have hki : (k : Int) < (M : Int) := by omega
     have hk0 : (0 : Int) ≤ (k : Int) := by omega
     have HCA := Lib.hid (clo_at 0 0 rfl p g bc bs bt a x.1 x.2 s _ (wr.alloc (.cells #[.string XT, .string XS, .bool xm] 48)) HP.out hsz
      ((HST.out _ HKE.out _ (by decide) _ _ HC.out).alloc _) ((HST.out _ HKE.out _ (by decide) _ _ HG.out).alloc _) rfl rfl (HKX.out.size.alloc _) (HKX.out.term.alloc _) hne XT XS xm HXT.out HXS.out HXM.out)
     have HKE1 := Lib.hid (HKE.out.alloc (.cells #[.string XT, .string XS, .bool xm] 48))
     clear hp hdr hXT hXS hxm
     go_wp2_with fail
     refine HCA.out.mono ?_
     rintro e w5 ⟨rfl, ⟨hs5, ht5⟩, hk5⟩
     have HK5 := Lib.hid (Kept.mk hs5 ht5)
     have HKE5 := Lib.hid (HKE1.out.trans hk5)
     clear hs5 ht5 hk5
     go_wp2_with fail
     go_roundw
     case rel => exact ⟨k + 1, _, by omega, by go_num, HK5.out, HKE5.out, by rw [← HGO.out, HDR.out]; rfl⟩
     case measure => simp [intOf]; omega
    ·obtain rfl : M = k := by omega
     have hgo := HGO.out
     rw [List.drop_of_length_le (by rw [HM.out]; omega)] at hgo
     have HGO1 := Lib.hid (show x = Sc.next ts ks (bl s) a from hgo)
     clear hgo HGO hlt
     go_wp2_with fail
     go_end0
     exact ⟨rfl, by rw [← HGO1.out]; exact HKX.out, HKE.out⟩
end Go.Proofs.Ytddjmhhdpfebkaa
