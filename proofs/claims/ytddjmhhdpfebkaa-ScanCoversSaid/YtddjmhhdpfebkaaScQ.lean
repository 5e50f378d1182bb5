import Derived.Test.YtddjmhhdpfebkaaScN
namespace Go.Proofs.Ytddjmhhdpfebkaa
set_option maxRecDepth 100000
open Go.RowKit
set_option linter.unusedVariables false
set_option linter.unusedSimpArgs false
set_option maxHeartbeats 16000000 in
theorem covers17_law (vt : Value) (ts : List P) (vk : Value) (ks : List P) (s : ByteArray) (hs : s.size ≤ 9223372036854775807) (w : World) (ht : Pats w w.heap.size vt ts) (hk : Pats w w.heap.size vk ks) :
  Calls Try.prog 4 #[vt, vk, .string s] w fun e w' => e = .returned (.bool true) ∧ Below w.heap.size w w' := by
 obtain ⟨A, c, rfl, hcl, hA⟩ := ht.ex
 obtain ⟨Ak, ck, rfl, hck, hAk⟩ := hk.ex
 have HZ := Lib.hid (fun p (h : p ∈ ts ∨ p ∈ ks) => h.elim (ht.sz p) (hk.sz p))
 have h40 := ht.len
 have h41 : ts.length ≤ 1000000000000000 := by unfold reachBytes at h40; omega
 have h42 : ks.length ≤ 1000000000000000 := by have := hk.len; unfold reachBytes at this; omega
 have H41 := Lib.hid h41
 have H42 := Lib.hid h42
 have HAK := Lib.hid hAk
 have HCA := Lib.hid hcl
 have HCK := Lib.hid hck
 have HAW := Lib.hid (awake_any w)
 have HMA := Lib.hid (fun w' (h : Below w.heap.size w w') => made_any A c ts Ak ks.length ck w' ((hcl.below h).mono h.size) h40)
 obtain ⟨N, hN⟩ : ∃ N, ts.length = N := ⟨_, rfl⟩
 obtain ⟨M, hM⟩ : ∃ M, ks.length = M := ⟨_, rfl⟩
 rw [hN, hM] at HMA ⊢
 rw [hN] at h41
 rw [hM] at h42
 have HN := Lib.hid hN
 have HM := Lib.hid hM
 clear ht hk hcl hck hA hAk h40 hN hM
 go_enter Try.func4, Try.ntmps4
 go_wp2_with fail
 refine HAW.out.mono ?_
 rintro e w1 ⟨rfl, hb1⟩
 have HMA1 := Lib.hid (HMA.out w1 hb1)
 go_wp2_with fail
 refine HMA1.out.mono ?_
 rintro e w2 ⟨A1, c1, ⟨rfl, hl2⟩, hb2⟩
 have hg := At.new w2 28 #[.slice A1 N c1, .slice Ak M ck, .slice none 0 0, .string ⟨#[]⟩, .slice none 0 0]
 have hbg := (Below.refl w2.heap.size w2).alloc (Nat.le_refl _) (.cells #[.slice A1 N c1, .slice Ak M ck, .slice none 0 0, .string ⟨#[]⟩, .slice none 0 0] 28)
 obtain ⟨W2, hW2⟩ : ∃ W2, w2.alloc (.cells #[.slice A1 N c1, .slice Ak M ck, .slice none 0 0, .string ⟨#[]⟩, .slice none 0 0] 28) = W2 := ⟨_, rfl⟩
 rw [hW2] at hg hbg
 obtain ⟨gb, hgb⟩ : ∃ g, g = w2.heap.size := ⟨_, rfl⟩
 rw [← hgb] at hg
 have hcl2 := (hl2.below hbg).cl
 have hbw2 := hb1.trans ((hb2.mono hb1.size).trans (hbg.mono (Nat.le_trans hb1.size hb2.size)))
 have hck2 := (HCK.out.below hbw2).mono hbw2.size
 have HR := Lib.hid (fun w' (h : Below W2.heap.size W2 w') => And.intro (And.intro ((hg.below h hg.lt).cell 0) (And.intro ((hg.below h hg.lt).cell 1) (And.intro ((hg.below h hg.lt).cell 2) (And.intro ((hg.below h hg.lt).cell 3) ((hg.below h hg.lt).cell 4))))) (And.intro ((hcl2.below h).mono h.size) ((hck2.below h).mono h.size)))
 simp only [List.getElem?_toArray, List.getElem?_cons_zero, List.getElem?_cons_succ] at HR
 have HFI := Lib.hid (fun w' (h : Below W2.heap.size W2 w') => hbw2.trans (h.mono hbw2.size))
 have hfe := few_any A1 c1 ts Ak ck ks W2 hcl2 hck2 H41.out H42.out HZ.out
 rw [HN.out, HM.out] at hfe
 have HFE := Lib.hid hfe
 have HW2 := Lib.hid hW2
 have HGB := Lib.hid hgb
 have HSZ := Lib.hid hbw2.size
 obtain ⟨⟨g0, g1, g2, g3, g4⟩, _⟩ := HR.out W2 (Below.refl _ _)
 clear hb1 hl2 hb2 hg hbg hW2 hgb hcl2 hbw2 hck2 hfe HMA HMA1 HAW
 go_wp2_with fail
 rw [HW2.out, ← HGB.out]
 go_wp2_with fail
 refine HFE.out.mono ?_
 rintro e w3 ⟨⟨r, rfl, hr⟩, hb3⟩
 have HB3 := Lib.hid hb3
 clear hb3 g0 g1 g2 g3 g4 HFE
 cases r with
 | false =>
  clear hr
  go_wp2_with fail
  go_ret
  exact ⟨rfl, HFI.out _ HB3.out⟩
 | true =>
 obtain ⟨hn20, hm10⟩ := hr rfl
 have HN20 := Lib.hid (show ts.length ≤ 1000 by rw [HN.out]; omega)
 have HM10 := Lib.hid (show ks.length ≤ 1000 by rw [HM.out]; omega)
 obtain ⟨⟨g0, g1, g2, g3, g4⟩, hcl3, hck3⟩ := HR.out w3 HB3.out
 clear hr
 by_cases hs : (100 : Int) < (s.size : Int)
 ·go_wp2_with fail
  go_ret
  exact ⟨rfl, HFI.out _ HB3.out⟩
 have hs100 : s.size ≤ 1000 := by omega
 obtain ⟨L, ok, K, hct⟩ : ∃ L ok K, Sc.ct ts ks (bl s) 0 0 = (L, ok, K) := ⟨_, _, _, rfl⟩
 obtain ⟨j, hl⟩ : ∃ j, L.length = j + 1 := ⟨L.length - 1, by
  have := Sc.ct_ne ts ks (bl s) 0 0
  rw [hct] at this
  have := List.length_pos_iff.2 this
  simp only at this
  omega⟩
 have hl101 : j + 1 ≤ 1001 := by
  have := ct_len ts ks (bl s) s.size 0 0 (by rw [bl_length]; omega)
  rw [hct] at this
  simp only at this
  omega
 obtain ⟨okc, hok⟩ : ∃ z : Int, okV ok = .int .i64 z := ⟨_, rfl⟩
 obtain ⟨l, hlj⟩ : ∃ l, l = j + 1 := ⟨_, rfl⟩
 have hl' : L.length = l := by omega
 have hl1001 : l ≤ 1001 := by omega
 have HLL := Lib.hid hl'
 have HLJ := Lib.hid hlj
 have HCT := Lib.hid hct
 have HOK := Lib.hid hok
 have hwl : IntKind.i64.wrap ((l : Int) - 1) = (j : Int) := by rw [IntWalk.i64_in _ (by omega)]; omega
 have HA1 := Lib.hid (all_at A1 c1 ts Ak ck ks s w3 hcl3 hck3 HAK.out HN20.out HM10.out HZ.out hs100 N M HN.out HM.out L ok K hct l hl' okc hok)
 clear hct hl hok hl' hlj hcl3 hck3
 go_wp2_with fail
 refine HA1.out.mono ?_
 rintro e w4 ⟨A2, c2, ⟨rfl, hl4⟩, hb4⟩
 have HB4 := Lib.hid (HB3.out.trans (hb4.mono HB3.out.size))
 have HL4 := Lib.hid hl4.cl
 clear hb4 hl4 HA1 g0 g1 g2 g3 g4
 go_wp2_with fail
 go_loopw [12, 13] (fun u v wr => ∃ (k a kk : Nat), k < l ∧ u = .int .i64 (a : Int) ∧ v = .int .i64 (k : Int) ∧ a ≤ s.size ∧ Below w4.heap.size w4 wr ∧ Sc.Stand ts ks (bl s) L ok K k a kk) (fun _ v _ => l - (intOf v).toNat)
 case atStart => exact ⟨0, 0, 0, by have := HLJ.out; omega, rfl, rfl, by omega, Below.refl _ _, Sc.Stand.begin_ HCT.out⟩
 case round =>
  obtain ⟨k, a, kk, hk, rfl, rfl, ha, hbe, hstand⟩ := hrel
  have HBE := Lib.hid hbe
  by_cases hlt : k < l
  ·obtain ⟨x, ok', a', k', hnx⟩ := Sc.nx_is ts ks (bl s) s.size a kk (by rw [bl_length]; omega)
   obtain ⟨hx, hst, ht0, ht1⟩ := hstand.next (by rw [HLL.out]; exact hlt) hnx
   have HX := Lib.hid hx
   have HST := Lib.hid hst
   have HNX := Lib.hid hnx
   have HT0 := Lib.hid ht0
   have HT1 := Lib.hid ht1
   have hki : (k : Int) < (l : Int) := by omega
   have hk0 : (0 : Int) ≤ (k : Int) := by omega
   obtain ⟨xt, xa, xb⟩ := x
   obtain ⟨b, o, hA2, hbl, z0, z1, z2⟩ := (HL4.out.below hbe).tk hx
   subst hA2
   clear hbe hstand hnx hx hst ht0 ht1
   have hat := At.new wr 41 #[.int .i64 (xt : Int), .int .i64 (xa : Int), .int .i64 (xb : Int)]
   have hb9 := HBE.out.alloc HBE.out.size (.cells #[.int .i64 (xt : Int), .int .i64 (xa : Int), .int .i64 (xb : Int)] 41)
   obtain ⟨w9, hw9⟩ : ∃ w9, wr.alloc (.cells #[.int .i64 (xt : Int), .int .i64 (xa : Int), .int .i64 (xb : Int)] 41) = w9 := ⟨_, rfl⟩
   rw [hw9] at hat hb9
   obtain ⟨gx, hgx⟩ : ∃ g, g = wr.heap.size := ⟨_, rfl⟩
   rw [← hgx] at hat
   obtain ⟨G, hG⟩ := Qt.class_of w9.heap.size w9 (Nat.le_refl _)
   obtain ⟨v0, hv0⟩ := hG.onto w9 (Below.refl _ _)
   have hb49 := HB4.out.trans (hb9.mono HB4.out.size)
   have HBG := Lib.hid (fun y => HFI.out _ (hb49.trans ((hG.below y).mono hb49.size)))
   have HB9G := Lib.hid (fun y => hb9.trans ((hG.below y).mono hb9.size))
   have hat0 := hat.cell 0
   have hat1 := hat.cell 1
   have hat2 := hat.cell 2
   simp only [List.getElem?_toArray, List.getElem?_cons_zero, List.getElem?_cons_succ] at hat0 hat1 hat2
   have y0 := Qt.cell hG hat.lt hat0
   have y1 := Qt.cell hG hat.lt hat1
   have y2 := Qt.cell hG hat.lt hat2
   have HG : Hid (Qt.Class w9.heap.size (G v0) G) := Lib.hid (by rw [← hv0]; exact hG)
   have HW9 := Lib.hid (hw9.trans hv0)
   have HGX := Lib.hid hgx
   clear hat hb9 hw9 hgx hG hv0 hb49 hat0 hat1 hat2
   have hab : (a ≤ xa ∧ xa ≤ xb ∧ xb ≤ s.size) ∧ a' ≤ s.size ∧ (xt ≠ 0 → a' = xb) := by
    have e0 := HNX.out.last
    have e1 := HNX.out.tok
    have e2 := HNX.out.skips.le
    simp only at e0 e1 e2
    rw [bl_length] at e0 e1
    by_cases h : xt = 0
    ·obtain ⟨e2, e4, e3, _⟩ := e0 h
     exact ⟨by omega, by omega, fun h2 => absurd h h2⟩
    ·obtain ⟨_, _, _, e2, e3, e4⟩ := e1 (by omega)
     exact ⟨by omega, by omega, fun _ => e4⟩
   obtain ⟨⟨ha1, ha2, ha3⟩, ha4, ha5⟩ := hab
   have r1 : ¬ (xa : Int) < (a : Int) := by omega
   have r2 : ¬ (xb : Int) < (xa : Int) := by omega
   have r3 : ¬ (s.size : Int) < (xb : Int) := by omega
   have HA5 := Lib.hid ha5
   have HSK := Lib.hid (show Sc.Skips ts ks (bl s) a xa from HNX.out.skips)
   clear ha5
   go_wp2_with fail
   rw [HW9.out, ← HGX.out]
   go_wp2_with fail
   go_loopw [12] (fun u wr' => ∃ a2 : Nat, a2 ≤ xa ∧ u = .int .i64 (a2 : Int) ∧ Sc.Skips ts ks (bl s) a2 xa ∧ ∃ y, wr' = G y) (fun u _ => xa - (intOf u).toNat)
   case atStart => exact ⟨a, ha1, rfl, HSK.out, v0, rfl⟩
   case round =>
    obtain ⟨a2, ha2x, rfl, hskip, y, rfl⟩ := hrel
    have HS2 := Lib.hid hskip
    by_cases hlt2 : a2 < xa
    ·obtain ⟨hn1, hn0, hrest⟩ := hskip.cons hlt2
     have hmost := Sc.next_skip hn1 (Nat.pos_of_ne_zero hn0)
     obtain ⟨mm, hmm⟩ : ∃ mm, (Sc.next ts ks (bl s) a2).2 = mm := ⟨_, rfl⟩
     rw [hmm] at hn0 hrest hmost
     have hmx : a2 + mm ≤ xa := hrest.le
     have HMO := Lib.hid hmost
     have HRE := Lib.hid hrest
     have hlt2I : (a2 : Int) < (xa : Int) := by omega
     clear hskip hn1 hrest hmost hmm
     go_wp2_with fail
     go_loopw [15, 16] (fun u v wr' => ∃ i m : Nat, i ≤ M ∧ m ≤ 1000 ∧ v = .int .i64 (i : Int) ∧ u = .int .i64 (m : Int) ∧ Sc.most (bl s) a2 (ks.drop i) m = mm ∧ ∃ y, wr' = G y) (fun _ v _ => M - (intOf v).toNat)
     case atStart => exact ⟨0, 0, by omega, by omega, rfl, rfl, by rw [List.drop_zero]; exact HMO.out, y, rfl⟩
     case round =>
      obtain ⟨i, m, hi, hm, rfl, rfl, hmo, y, rfl⟩ := hrel
      have HM2 := Lib.hid hmo
      clear hmo
      by_cases hlt2 : i < M
      ·obtain ⟨p, hp⟩ : ∃ p, ks[i]? = some p := ⟨_, List.getElem?_eq_getElem (by rw [HM.out]; exact hlt2)⟩
       obtain ⟨pb, po, hA, hpb, u0, u1, u2⟩ := HCK.out.pat hp
       subst hA
       have hdr : ks.drop i = p :: ks.drop (i + 1) := by
        have hh := List.getElem?_eq_some_iff.1 hp
        rw [List.drop_eq_getElem_cons hh.1, hh.2]
       have HDR := Lib.hid hdr
       obtain ⟨XT, hXT⟩ : ∃ X, str p.T = X := ⟨_, rfl⟩
       obtain ⟨XS, hXS⟩ : ∃ X, str p.S = X := ⟨_, rfl⟩
       obtain ⟨xm, hxm⟩ : ∃ X, p.m = X := ⟨_, rfl⟩
       rw [hXT] at u0
       rw [hXS] at u1
       rw [hxm] at u2
       have q0 : (G y).cell? ⟨pb, po + i * 3, none⟩ = some (.string XT) := ((HBG.out y).cell (p := ⟨pb, _, none⟩) hpb).trans u0
       have q1 : (G y).cell? ⟨pb, po + i * 3 + 1, none⟩ = some (.string XS) := ((HBG.out y).cell (p := ⟨pb, _, none⟩) hpb).trans u1
       have q2 : (G y).cell? ⟨pb, po + i * 3 + 2, none⟩ = some (.bool xm) := ((HBG.out y).cell (p := ⟨pb, _, none⟩) hpb).trans u2
       have HKL := Lib.hid (Qt.calls HG.out (fun w => reflen_at p s a2 w (HZ.out p (.inr (List.mem_of_getElem? hp))) hs100 XT XS xm hXT hXS hxm))
       have hle : Sc.len p (bl s) a2 ≤ 1000 := by
        have := Pt.lenAt_le (T := p.T) (S := p.S) (m := p.m) (s := bl s) (a := (a2 : Int))
        rw [bl_length] at this
        unfold Sc.len; omega
       obtain ⟨ln, hln⟩ : ∃ ln, Sc.len p (bl s) a2 = ln := ⟨_, rfl⟩
       rw [hln] at HKL hle
       have HLN := Lib.hid hln
       have hi1 : (i : Int) < (M : Int) := by omega
       have hi0 : (0 : Int) ≤ (i : Int) := by omega
       clear hp hdr hXT hXS hxm u0 u1 u2 hln
       go_wp2_with fail
       refine (HKL.out _).mono ?_
       rintro e _ ⟨rfl, z, rfl⟩
       go_wp2_with fail
       go_roundw
       case rel => exact ⟨i + 1, max m ln, by omega, by omega, by go_num, congrArg (Value.int .i64) (by split <;> omega), by rw [← HM2.out, HDR.out, ← HLN.out]; rfl, z, rfl⟩
       case measure => simp [intOf]; omega
      ·obtain rfl : M = i := by omega
       have hmo := HM2.out
       rw [List.drop_of_length_le (by rw [HM.out]; omega)] at hmo
       obtain rfl : m = mm := hmo
       have hmI : ((m : Int) == 0) = false := by rw [beq_eq_false_iff_ne]; omega
       have hw5 : IntKind.i64.wrap ((a2 : Int) + (m : Int)) = (a2 : Int) + (m : Int) := IntWalk.i64_in _ (by omega)
       clear hlt2 HM2
       go_wp2_with fail
       go_roundw
       case rel => exact ⟨a2 + m, hmx, by rw [Int.natCast_add], HRE.out, y, rfl⟩
       case measure => simp [intOf]; omega
    ·obtain rfl : a2 = xa := by omega
     clear hskip hlt2
     have hxx : ((a2 : Int) != (a2 : Int)) = false := by simp
     have hst2 : Sc.Stand ts ks (bl s) L ok K (k + 1) a' k' := HST.out
     by_cases hkj : k = j
     ·have hxt : xt = 0 := by
       by_cases h : xt = 0
       ·exact h
       ·have := (HT1.out h).2
        rw [HLL.out] at this
        have := HLJ.out
        omega
      obtain ⟨l1, l2, l3, l4, l5⟩ := HNX.out.last hxt
      have hok' : ok' = ok := (HT0.out hxt).1
      simp only at l1 l5
      rw [bl_length] at l5
      have heq : ((k : Int) == (j : Int)) = true := by rw [beq_iff_eq]; omega
      have heq2 : ((xb : Int) == (a2 : Int)) = true := by rw [beq_iff_eq]; omega
      have heq3 : ((xt : Int) == 0) = true := by rw [beq_iff_eq]; omega
      have heq4 : ((okc == 0) == ((a2 : Int) == (s.size : Int))) = true := by
       have hO := HOK.out
       rcases l5 with ⟨e, h⟩ | ⟨e, h, _⟩
       ·rw [← hok', e] at hO
        obtain rfl : okc = 0 := by unfold okV at hO; injection hO with _ hO; exact hO.symm
        have : ((a2 : Int) == (s.size : Int)) = true := by rw [beq_iff_eq]; omega
        rw [this]; rfl
       ·rw [← hok', e] at hO
        obtain rfl : okc = 21 := by unfold okV at hO; injection hO with _ hO; exact hO.symm
        have : ((a2 : Int) == (s.size : Int)) = false := by rw [beq_eq_false_iff_ne]; omega
        rw [this]; rfl
      clear hkj hxt l1 l2 l3 l4 l5 hok' hst2
      go_wp2_with fail
      go_ret
      exact ⟨rfl, HBG.out _⟩
     ·have hxt : xt ≠ 0 := fun h => by
       have := (HT0.out h).2
       rw [HLL.out] at this
       have := HLJ.out
       omega
      have hap := HA5.out hxt
      obtain ⟨_, hts, hnt, hxab, hxb, _⟩ := HNX.out.tok (Nat.pos_of_ne_zero hxt)
      simp only at hts hnt hxab hxb
      have hk1 := (HT1.out hxt).2
      rw [HLL.out] at hk1
      obtain ⟨ti, p, e1, hp, e3, e4, e5⟩ := Sc.next_tok (ts := ts) (ks := ks) (s := bl s) (a := a2) (by rw [hnt]; exact Nat.pos_of_ne_zero hxt)
      rw [hnt] at e1 e3
      simp only at e1 e3
      have htN := (List.getElem?_eq_some_iff.1 hp).1
      rw [HN.out] at htN
      obtain ⟨pb, po, hA, hpb, u0, u1, u2⟩ := HCA.out.pat hp
      subst hA
      obtain ⟨XT, hXT⟩ : ∃ X, str p.T = X := ⟨_, rfl⟩
      obtain ⟨XS, hXS⟩ : ∃ X, str p.S = X := ⟨_, rfl⟩
      obtain ⟨xm, hxm⟩ : ∃ X, p.m = X := ⟨_, rfl⟩
      rw [hXT] at u0
      rw [hXS] at u1
      rw [hxm] at u2
      have q0 : ∀ y, (G y).cell? ⟨pb, po + ti * 3, none⟩ = some (.string XT) := fun y => ((HBG.out y).cell (p := ⟨pb, _, none⟩) hpb).trans u0
      have q1 : ∀ y, (G y).cell? ⟨pb, po + ti * 3 + 1, none⟩ = some (.string XS) := fun y => ((HBG.out y).cell (p := ⟨pb, _, none⟩) hpb).trans u1
      have q2 : ∀ y, (G y).cell? ⟨pb, po + ti * 3 + 2, none⟩ = some (.bool xm) := fun y => ((HBG.out y).cell (p := ⟨pb, _, none⟩) hpb).trans u2
      obtain ⟨n, hn⟩ : ∃ n, xb - a2 = n := ⟨_, rfl⟩
      rw [hn] at e3
      have HKL := Lib.hid (Qt.calls HG.out (fun w => reflen_at p s a2 w (HZ.out p (.inl (List.mem_of_getElem? hp))) hs100 XT XS xm hXT hXS hxm))
      rw [e3] at HKL
      have t1 : ¬ (xt : Int) < 1 := by omega
      have t2 : ¬ (N : Int) < (xt : Int) := by omega
      have t3 : decide ((xt : Int) < 1) = false := decide_eq_false t1
      have t4 : decide ((N : Int) < (xt : Int)) = false := decide_eq_false t2
      have t5 : decide (N < xt) = false := decide_eq_false (by omega)
      have t6 : decide (xt < 1) = false := decide_eq_false (by omega)
      have hw6 : IntKind.i64.wrap ((xt : Int) - 1) = (ti : Int) := by rw [IntWalk.i64_in _ (by omega)]; omega
      have hw7 : IntKind.i64.wrap ((xb : Int) - (a2 : Int)) = (n : Int) := by rw [IntWalk.i64_in _ (by omega)]; omega
      have ti0 : (0 : Int) ≤ (ti : Int) := by omega
      have ti1 : (ti : Int) < (N : Int) := by omega
      have hnn : ((n : Int) != (n : Int)) = false := by simp
      have hbx : ((xb : Int) == (a2 : Int)) = false := by rw [beq_eq_false_iff_ne]; omega
      have heq : ((k : Int) == (j : Int)) = false := by rw [beq_eq_false_iff_ne]; omega
      rw [hap] at hst2
      have HST2 := Lib.hid hst2
      clear hkj hxt hap hts hnt e1 e3 e4 e5 hp htN hXT hXS hxm u0 u1 u2 hn hst2
      go_wp2_with fail
      refine Qt.start HG.out (by kernel_rfl) (by kernel_rfl) ?_
      repeat (go_big_quiet_step (with_reducible exact HKL.out _))
      refine wpQuiet_nil ?_
      intro _ hw'
      obtain ⟨z, hw''⟩ := hw'
      subst hw''
      go_wp2_with fail
      go_roundw
      case rel => exact ⟨k + 1, xb, k', hk1, rfl, by go_num, by omega, HB9G.out _, HST2.out⟩
      case measure => simp [intOf]; omega
  ·exact absurd hk hlt
end Go.Proofs.Ytddjmhhdpfebkaa
