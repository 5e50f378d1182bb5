import Derived.Test.YtddjmhhdpfebkaaScN
namespace Go.Proofs.Ytddjmhhdpfebkaa
set_option maxRecDepth 100000
open Go.RowKit
set_option linter.unusedVariables false
set_option linter.unusedSimpArgs false
namespace Sc
theorem nx_longest {ts ks : List P} {s : List UInt8} {a k a' k' : Nat} {x : Tk} {ok : Bool} (h : Nx ts ks s a k x ok a' k') (hne : x.t = 0 → ok = false) :
  (∀ p, p ∈ ts ∨ p ∈ ks → len p s x.a ≤ x.b - x.a) ∧ ∀ (i : Nat) (p : P), ts[i]? = some p → len p s x.a = x.b - x.a → 0 < x.b - x.a → ¬ i + 1 < x.t := by
 by_cases ht : x.t = 0
 ·obtain ⟨l1, l2, l3, l4, l5⟩ := h.last ht
  have hb : x.b - x.a = 0 := by omega
  rcases l5 with ⟨e, _⟩ | ⟨_, _, hn⟩
  ·rw [hne ht] at e; cases e
  ·rw [hb]
   refine ⟨fun p hp => ?_, fun i p _ _ h0 => by omega⟩
   have := next_all (s := s) (a := x.a) hp
   omega
 ·obtain ⟨_, _, hn, _⟩ := h.tok (by omega)
  have h2 : (next ts ks s x.a).2 = x.b - x.a := by rw [hn]
  have h1 : (next ts ks s x.a).1 = x.t := by rw [hn]
  refine ⟨fun p hp => by rw [← h2]; exact next_all hp, fun i p hp he h0 hi => ?_⟩
  obtain ⟨q, r, e1, e2, e3, e4, e5⟩ := next_tok (ts := ts) (ks := ks) (s := s) (a := x.a) (by omega)
  exact e5 i p (by omega) hp (by rw [h2]; exact he)
end Sc
set_option maxHeartbeats 16000000 in
theorem longest17_law (vt : Value) (ts : List P) (vk : Value) (ks : List P) (s : ByteArray) (hs : s.size ≤ 9223372036854775807) (w : World) (ht : Pats w w.heap.size vt ts) (hk : Pats w w.heap.size vk ks) :
  Calls Try.prog 5 #[vt, vk, .string s] w fun e w' => e = .returned (.bool true) ∧ Below w.heap.size w w' := by
 obtain ⟨A, c, rfl, hcl, hA⟩ := ht.ex
 obtain ⟨Ak, ck, rfl, hck, hAk⟩ := hk.ex
 have HZ := Lib.hid (fun p (h : p ∈ ts ∨ p ∈ ks) => h.elim (ht.sz p) (hk.sz p))
 have h40 := ht.len
 have h41 : ts.length ≤ 1000000000000000 := by unfold reachBytes at h40; omega
 have h42 : ks.length ≤ 1000000000000000 := by have := hk.len; unfold reachBytes at this; omega
 have H41 := Lib.hid h41
 have H42 := Lib.hid h42
 have HAK := Lib.hid hAk
 have HCA := Lib.hid hcl
 have HCK := Lib.hid hck
 have HAW := Lib.hid (awake_any w)
 have HMA := Lib.hid (fun w' (h : Below w.heap.size w w') => made_any A c ts Ak ks.length ck w' ((hcl.below h).mono h.size) h40)
 obtain ⟨N, hN⟩ : ∃ N, ts.length = N := ⟨_, rfl⟩
 obtain ⟨M, hM⟩ : ∃ M, ks.length = M := ⟨_, rfl⟩
 rw [hN, hM] at HMA ⊢
 rw [hN] at h41
 rw [hM] at h42
 have HN := Lib.hid hN
 have HM := Lib.hid hM
 clear ht hk hcl hck hA hAk h40 hN hM
 go_enter Try.func5, Try.ntmps5
 go_wp2_with fail
 refine HAW.out.mono ?_
 rintro e w1 ⟨rfl, hb1⟩
 have HMA1 := Lib.hid (HMA.out w1 hb1)
 go_wp2_with fail
 refine HMA1.out.mono ?_
 rintro e w2 ⟨A1, c1, ⟨rfl, hl2⟩, hb2⟩
 have hg := At.new w2 28 #[.slice A1 N c1, .slice Ak M ck, .slice none 0 0, .string ⟨#[]⟩, .slice none 0 0]
 have hbg := (Below.refl w2.heap.size w2).alloc (Nat.le_refl _) (.cells #[.slice A1 N c1, .slice Ak M ck, .slice none 0 0, .string ⟨#[]⟩, .slice none 0 0] 28)
 obtain ⟨W2, hW2⟩ : ∃ W2, w2.alloc (.cells #[.slice A1 N c1, .slice Ak M ck, .slice none 0 0, .string ⟨#[]⟩, .slice none 0 0] 28) = W2 := ⟨_, rfl⟩
 rw [hW2] at hg hbg
 obtain ⟨gb, hgb⟩ : ∃ g, g = w2.heap.size := ⟨_, rfl⟩
 rw [← hgb] at hg
 have hcl2 := (hl2.below hbg).cl
 have hbw2 := hb1.trans ((hb2.mono hb1.size).trans (hbg.mono (Nat.le_trans hb1.size hb2.size)))
 have hck2 := (HCK.out.below hbw2).mono hbw2.size
 have HR := Lib.hid (fun w' (h : Below W2.heap.size W2 w') => And.intro (And.intro ((hg.below h hg.lt).cell 0) (And.intro ((hg.below h hg.lt).cell 1) (And.intro ((hg.below h hg.lt).cell 2) (And.intro ((hg.below h hg.lt).cell 3) ((hg.below h hg.lt).cell 4))))) (And.intro ((hcl2.below h).mono h.size) ((hck2.below h).mono h.size)))
 simp only [List.getElem?_toArray, List.getElem?_cons_zero, List.getElem?_cons_succ] at HR
 have HFI := Lib.hid (fun w' (h : Below W2.heap.size W2 w') => hbw2.trans (h.mono hbw2.size))
 have hfe := few_any A1 c1 ts Ak ck ks W2 hcl2 hck2 H41.out H42.out HZ.out
 rw [HN.out, HM.out] at hfe
 have HFE := Lib.hid hfe
 have HW2 := Lib.hid hW2
 have HGB := Lib.hid hgb
 have HSZ := Lib.hid hbw2.size
 obtain ⟨⟨g0, g1, g2, g3, g4⟩, _⟩ := HR.out W2 (Below.refl _ _)
 clear hb1 hl2 hb2 hg hbg hW2 hgb hcl2 hbw2 hck2 hfe HMA HMA1 HAW
 go_wp2_with fail
 rw [HW2.out, ← HGB.out]
 go_wp2_with fail
 refine HFE.out.mono ?_
 rintro e w3 ⟨⟨r, rfl, hr⟩, hb3⟩
 have HB3 := Lib.hid hb3
 clear hb3 g0 g1 g2 g3 g4 HFE
 cases r with
 | false =>
  clear hr
  go_wp2_with fail
  go_ret
  exact ⟨rfl, HFI.out _ HB3.out⟩
 | true =>
 obtain ⟨hn20, hm10⟩ := hr rfl
 have HN20 := Lib.hid (show ts.length ≤ 1000 by rw [HN.out]; omega)
 have HM10 := Lib.hid (show ks.length ≤ 1000 by rw [HM.out]; omega)
 obtain ⟨⟨g0, g1, g2, g3, g4⟩, hcl3, hck3⟩ := HR.out w3 HB3.out
 clear hr
 by_cases hs : (100 : Int) < (s.size : Int)
 ·go_wp2_with fail
  go_ret
  exact ⟨rfl, HFI.out _ HB3.out⟩
 have hs100 : s.size ≤ 1000 := by omega
 obtain ⟨L, ok, K, hct⟩ : ∃ L ok K, Sc.ct ts ks (bl s) 0 0 = (L, ok, K) := ⟨_, _, _, rfl⟩
 obtain ⟨j, hl⟩ : ∃ j, L.length = j + 1 := ⟨L.length - 1, by
  have := Sc.ct_ne ts ks (bl s) 0 0
  rw [hct] at this
  have := List.length_pos_iff.2 this
  simp only at this
  omega⟩
 have hl101 : j + 1 ≤ 1001 := by
  have := ct_len ts ks (bl s) s.size 0 0 (by rw [bl_length]; omega)
  rw [hct] at this
  simp only at this
  omega
 obtain ⟨okc, hok⟩ : ∃ z : Int, okV ok = .int .i64 z := ⟨_, rfl⟩
 obtain ⟨l, hlj⟩ : ∃ l, l = j + 1 := ⟨_, rfl⟩
 have hl' : L.length = l := by omega
 have hl1001 : l ≤ 1001 := by omega
 have HLL := Lib.hid hl'
 have HLJ := Lib.hid hlj
 have HCT := Lib.hid hct
 have HOK := Lib.hid hok
 have hwl : IntKind.i64.wrap ((l : Int) - 1) = (j : Int) := by rw [IntWalk.i64_in _ (by omega)]; omega
 have HA1 := Lib.hid (all_at A1 c1 ts Ak ck ks s w3 hcl3 hck3 HAK.out HN20.out HM10.out HZ.out hs100 N M HN.out HM.out L ok K hct l hl' okc hok)
 clear hct hl hok hl' hlj hcl3 hck3
 go_wp2_with fail
 refine HA1.out.mono ?_
 rintro e w4 ⟨A2, c2, ⟨rfl, hl4⟩, hb4⟩
 have HB4 := Lib.hid (HB3.out.trans (hb4.mono HB3.out.size))
 have HL4 := Lib.hid hl4.cl
 clear hb4 hl4 HA1 g0 g1 g2 g3 g4
 go_wp2_with fail
 go_loopw [12] (fun i wr => ∃ (k a kk : Nat), k ≤ l ∧ i = .int .i64 (k : Int) ∧ a ≤ s.size ∧ Below w4.heap.size w4 wr ∧ Sc.Stand ts ks (bl s) L ok K k a kk ∧ (k = l → ok = false)) (fun i _ => l - (intOf i).toNat)
 case atStart => exact ⟨0, 0, 0, by omega, rfl, by omega, Below.refl _ _, Sc.Stand.begin_ HCT.out, fun h => by have := HLJ.out; omega⟩
 case round =>
  obtain ⟨k, a, kk, hk, rfl, ha, hbe, hstand, hend⟩ := hrel
  have HBE := Lib.hid hbe
  by_cases hlt : k < l
  ·obtain ⟨x, ok', a', k', hnx⟩ := Sc.nx_is ts ks (bl s) s.size a kk (by rw [bl_length]; omega)
   obtain ⟨hx, hst, ht0, ht1⟩ := hstand.next (by rw [HLL.out]; exact hlt) hnx
   have HX := Lib.hid hx
   have HST := Lib.hid hst
   have HNX := Lib.hid hnx
   have HT0 := Lib.hid ht0
   have HT1 := Lib.hid ht1
   have hki : (k : Int) < (l : Int) := by omega
   have hk0 : (0 : Int) ≤ (k : Int) := by omega
   obtain ⟨xt, xa, xb⟩ := x
   obtain ⟨b, o, hA2, hbl, z0, z1, z2⟩ := (HL4.out.below hbe).tk hx
   subst hA2
   clear hbe hstand hnx hx hst ht0 ht1
   have hat := At.new wr 41 #[.int .i64 (xt : Int), .int .i64 (xa : Int), .int .i64 (xb : Int)]
   have hb9 := HBE.out.alloc HBE.out.size (.cells #[.int .i64 (xt : Int), .int .i64 (xa : Int), .int .i64 (xb : Int)] 41)
   obtain ⟨w9, hw9⟩ : ∃ w9, wr.alloc (.cells #[.int .i64 (xt : Int), .int .i64 (xa : Int), .int .i64 (xb : Int)] 41) = w9 := ⟨_, rfl⟩
   rw [hw9] at hat hb9
   obtain ⟨gx, hgx⟩ : ∃ g, g = wr.heap.size := ⟨_, rfl⟩
   rw [← hgx] at hat
   obtain ⟨G, hG⟩ := Qt.class_of w9.heap.size w9 (Nat.le_refl _)
   obtain ⟨v0, hv0⟩ := hG.onto w9 (Below.refl _ _)
   have hb49 := HB4.out.trans (hb9.mono HB4.out.size)
   have HBG := Lib.hid (fun y => HFI.out _ (hb49.trans ((hG.below y).mono hb49.size)))
   have HB9G := Lib.hid (fun y => hb9.trans ((hG.below y).mono hb9.size))
   have hat0 := hat.cell 0
   have hat1 := hat.cell 1
   have hat2 := hat.cell 2
   simp only [List.getElem?_toArray, List.getElem?_cons_zero, List.getElem?_cons_succ] at hat0 hat1 hat2
   have y0 := Qt.cell hG hat.lt hat0
   have y1 := Qt.cell hG hat.lt hat1
   have y2 := Qt.cell hG hat.lt hat2
   have HG : Hid (Qt.Class w9.heap.size (G v0) G) := Lib.hid (by rw [← hv0]; exact hG)
   have HW9 := Lib.hid (hw9.trans hv0)
   have HGX := Lib.hid hgx
   clear hat hb9 hw9 hgx hG hv0 hb49 hat0 hat1 hat2
   by_cases hfin : k = j ∧ ok = true
   ·obtain ⟨e1, e2⟩ := hfin
    have hxt : xt = 0 := by
     by_cases h : xt = 0
     ·exact h
     ·have := (HT1.out h).2
      rw [HLL.out] at this
      have := HLJ.out
      omega
    obtain ⟨l1, l2, l3, l4, l5⟩ := HNX.out.last hxt
    have hok' : ok' = true := by rw [(HT0.out hxt).1]; exact e2
    have hxs : xa = s.size := by
     simp only at l3 l5
     rw [bl_length] at l3 l5
     rcases l5 with ⟨_, h⟩ | ⟨h, _⟩
     ·omega
     ·rw [hok'] at h; cases h
    subst e2
    obtain rfl : okc = 0 := by have := HOK.out; unfold okV at this; injection this with _ this; exact this.symm
    have heq : ((k : Int) == (j : Int)) = true := by rw [beq_iff_eq]; omega
    have heq2 : ((xa : Int) == (s.size : Int)) = true := by rw [beq_iff_eq]; omega
    clear l1 l2 l3 l4 l5 hxs hxt e1 hok'
    go_wp2_with fail
    rw [HW9.out, ← HGX.out]
    go_wp2_with fail
    go_ret
    exact ⟨rfl, HBG.out _⟩
   ·have hne : xt = 0 → ok' = false := fun h => by
     obtain ⟨e1, e2⟩ := HT0.out h
     rw [e1]
     cases ok with
     | false => rfl
     | true =>
      refine absurd ⟨?_, rfl⟩ hfin
      have := HLL.out
      have := HLJ.out
      omega
    have HLO0 := Sc.nx_longest HNX.out hne
    have hab : xa ≤ xb ∧ xb ≤ s.size := by
     have e0 := HNX.out.last
     have e1 := HNX.out.tok
     simp only at e0 e1
     rw [bl_length] at e0 e1
     by_cases h : xt = 0
     ·obtain ⟨e2, _, e3, _⟩ := e0 h
      omega
     ·obtain ⟨_, _, _, e2, e3, _⟩ := e1 (by omega)
      omega
    obtain ⟨n, hn⟩ : ∃ n, xb - xa = n := ⟨_, rfl⟩
    simp only at HLO0
    rw [hn] at HLO0
    have HLO := Lib.hid HLO0
    have hw1 : IntKind.i64.wrap ((xb : Int) - (xa : Int)) = (n : Int) := by rw [IntWalk.i64_in _ (by omega)]; omega
    have hend2 : k + 1 = l → ok = false := fun h => by
     cases ok with
     | false => rfl
     | true =>
      refine absurd ⟨?_, rfl⟩ hfin
      have := HLJ.out
      omega
    have HEN := Lib.hid hend2
    have hap : a' ≤ s.size := by
     have e0 := HNX.out.last
     have e1 := HNX.out.tok
     simp only at e0 e1
     rw [bl_length] at e0 e1
     by_cases h : xt = 0
     ·obtain ⟨_, e2, e3, _⟩ := e0 h
      omega
     ·obtain ⟨_, _, _, _, e3, e4⟩ := e1 (by omega)
      omega
    have HAP := Lib.hid hap
    clear HLO0 hne hab hn hend2 hap
    by_cases hkj : k = j
    ·have hok0 : ok = false := by
      cases ok with
      | false => rfl
      | true => exact absurd ⟨hkj, rfl⟩ hfin
     have heq : ((k : Int) == (j : Int)) = true := by rw [beq_iff_eq]; omega
     subst hok0
     obtain rfl : okc = 21 := by have := HOK.out; unfold okV at this; injection this with _ this; exact this.symm
     clear hkj hfin
     go_wp2_with fail
     rw [HW9.out, ← HGX.out]
     go_wp2_with fail
     go_loopw [15] (fun v wr' => ∃ i : Nat, i ≤ N ∧ v = .int .i64 (i : Int) ∧ ∃ y, wr' = G y) (fun v _ => N - (intOf v).toNat)
     case atStart => exact ⟨0, by omega, rfl, v0, rfl⟩
     case round =>
      obtain ⟨i, hi, rfl, y, rfl⟩ := hrel
      by_cases hlt2 : i < N
      ·obtain ⟨p, hp⟩ : ∃ p, ts[i]? = some p := ⟨_, List.getElem?_eq_getElem (by rw [HN.out]; exact hlt2)⟩
       obtain ⟨pb, po, hA, hpb, u0, u1, u2⟩ := HCA.out.pat hp
       subst hA
       obtain ⟨XT, hXT⟩ : ∃ X, str p.T = X := ⟨_, rfl⟩
       obtain ⟨XS, hXS⟩ : ∃ X, str p.S = X := ⟨_, rfl⟩
       obtain ⟨xm, hxm⟩ : ∃ X, p.m = X := ⟨_, rfl⟩
       rw [hXT] at u0
       rw [hXS] at u1
       rw [hxm] at u2
       have q0 : ∀ y, (G y).cell? ⟨pb, po + i * 3, none⟩ = some (.string XT) := fun y => ((HBG.out y).cell (p := ⟨pb, _, none⟩) hpb).trans u0
       have q1 : ∀ y, (G y).cell? ⟨pb, po + i * 3 + 1, none⟩ = some (.string XS) := fun y => ((HBG.out y).cell (p := ⟨pb, _, none⟩) hpb).trans u1
       have q2 : ∀ y, (G y).cell? ⟨pb, po + i * 3 + 2, none⟩ = some (.bool xm) := fun y => ((HBG.out y).cell (p := ⟨pb, _, none⟩) hpb).trans u2
       have hfl := HLO.out.1 p (.inl (List.mem_of_getElem? hp))
       have HKL := Lib.hid (Qt.calls HG.out (fun w => reflen_at p s xa w (HZ.out p (.inl (List.mem_of_getElem? hp))) hs100 XT XS xm hXT hXS hxm))
       obtain ⟨ln, hln⟩ : ∃ ln, Sc.len p (bl s) xa = ln := ⟨_, rfl⟩
       rw [hln] at HKL hfl
       have HLN := Lib.hid hln
       have HP := Lib.hid hp
       have hi1 : (i : Int) < (N : Int) := by omega
       have hi0 : (0 : Int) ≤ (i : Int) := by omega
       clear hp hXT hXS hxm u0 u1 u2 hln
       have hs1 : ln = n → 0 < n → ¬ i + 1 < xt := fun h => HLO.out.2 i p HP.out (by rw [HLN.out]; exact h)
       have HS1 := Lib.hid hs1
       clear hs1
       go_wp2_with fail
       refine Qt.start HG.out (by kernel_rfl) (by kernel_rfl) ?_
       repeat (go_big_quiet_step (with_reducible exact HKL.out _))
       refine wpQuiet_nil ?_
       intro _ hw'
       obtain ⟨z, hw''⟩ := hw'
       subst hw''
       by_cases h1 : ln = n
       ·subst h1
        by_cases h0 : 0 < ln
        ·have hni := HS1.out rfl h0
         have hniI : ¬ ((i : Int) + 1 < (xt : Int)) := by omega
         have h0I : (0 : Int) < (ln : Int) := by omega
         clear h0 hni hfl
         go_wp2_with fail
         go_roundw
         case rel => exact ⟨i + 1, by omega, by go_num, z, rfl⟩
         case measure => simp [intOf]; omega
        ·have h0I : ¬ (0 : Int) < (ln : Int) := by omega
         clear h0 hfl
         go_wp2_with fail
         go_roundw
         case rel => exact ⟨i + 1, by omega, by go_num, z, rfl⟩
         case measure => simp [intOf]; omega
       ·have hgt : ¬ (n : Int) < (ln : Int) := by omega
        have heqf : ((ln : Int) == (n : Int)) = false := by rw [beq_eq_false_iff_ne]; omega
        clear h1
        go_wp2_with fail
        go_roundw
        case rel => exact ⟨i + 1, by omega, by go_num, z, rfl⟩
        case measure => simp [intOf]; omega
      ·obtain rfl : N = i := by omega
       clear hlt2
       go_wp2_with fail
       go_loopw [17] (fun v wr' => ∃ i : Nat, i ≤ M ∧ v = .int .i64 (i : Int) ∧ ∃ y, wr' = G y) (fun v _ => M - (intOf v).toNat)
       case atStart => exact ⟨0, by omega, rfl, y, rfl⟩
       case round =>
        obtain ⟨i, hi, rfl, y, rfl⟩ := hrel
        by_cases hlt2 : i < M
        ·obtain ⟨p, hp⟩ : ∃ p, ks[i]? = some p := ⟨_, List.getElem?_eq_getElem (by rw [HM.out]; exact hlt2)⟩
         obtain ⟨pb, po, hA, hpb, u0, u1, u2⟩ := HCK.out.pat hp
         subst hA
         obtain ⟨XT, hXT⟩ : ∃ X, str p.T = X := ⟨_, rfl⟩
         obtain ⟨XS, hXS⟩ : ∃ X, str p.S = X := ⟨_, rfl⟩
         obtain ⟨xm, hxm⟩ : ∃ X, p.m = X := ⟨_, rfl⟩
         rw [hXT] at u0
         rw [hXS] at u1
         rw [hxm] at u2
         have q0 : ∀ y, (G y).cell? ⟨pb, po + i * 3, none⟩ = some (.string XT) := fun y => ((HBG.out y).cell (p := ⟨pb, _, none⟩) hpb).trans u0
         have q1 : ∀ y, (G y).cell? ⟨pb, po + i * 3 + 1, none⟩ = some (.string XS) := fun y => ((HBG.out y).cell (p := ⟨pb, _, none⟩) hpb).trans u1
         have q2 : ∀ y, (G y).cell? ⟨pb, po + i * 3 + 2, none⟩ = some (.bool xm) := fun y => ((HBG.out y).cell (p := ⟨pb, _, none⟩) hpb).trans u2
         have hfl := HLO.out.1 p (.inr (List.mem_of_getElem? hp))
         have HKL := Lib.hid (Qt.calls HG.out (fun w => reflen_at p s xa w (HZ.out p (.inr (List.mem_of_getElem? hp))) hs100 XT XS xm hXT hXS hxm))
         obtain ⟨ln, hln⟩ : ∃ ln, Sc.len p (bl s) xa = ln := ⟨_, rfl⟩
         rw [hln] at HKL hfl
         have HLN := Lib.hid hln
         have HP := Lib.hid hp
         have hi1 : (i : Int) < (M : Int) := by omega
         have hi0 : (0 : Int) ≤ (i : Int) := by omega
         clear hp hXT hXS hxm u0 u1 u2 hln
         go_wp2_with fail
         refine Qt.start HG.out (by kernel_rfl) (by kernel_rfl) ?_
         repeat (go_big_quiet_step (with_reducible exact HKL.out _))
         refine wpQuiet_nil ?_
         intro _ hw'
         obtain ⟨z, hw''⟩ := hw'
         subst hw''
         have hgt : ¬ (n : Int) < (ln : Int) := by omega
         go_wp2_with fail
         go_roundw
         case rel => exact ⟨i + 1, by omega, by go_num, z, rfl⟩
         case measure => simp [intOf]; omega
        ·obtain rfl : M = i := by omega
         clear hlt2
         go_wp2_with fail
         go_roundw
         case rel =>
          exact ⟨k + 1, a', k', by omega, by go_num, HAP.out, HB9G.out _, HST.out, HEN.out⟩
         case measure => simp [intOf]; omega
    ·have heq : ((k : Int) == (j : Int)) = false := by rw [beq_eq_false_iff_ne]; omega
     clear hkj hfin
     go_wp2_with fail
     rw [HW9.out, ← HGX.out]
     go_wp2_with fail
     go_loopw [15] (fun v wr' => ∃ i : Nat, i ≤ N ∧ v = .int .i64 (i : Int) ∧ ∃ y, wr' = G y) (fun v _ => N - (intOf v).toNat)
     case atStart => exact ⟨0, by omega, rfl, v0, rfl⟩
     case round =>
      obtain ⟨i, hi, rfl, y, rfl⟩ := hrel
      by_cases hlt2 : i < N
      ·obtain ⟨p, hp⟩ : ∃ p, ts[i]? = some p := ⟨_, List.getElem?_eq_getElem (by rw [HN.out]; exact hlt2)⟩
       obtain ⟨pb, po, hA, hpb, u0, u1, u2⟩ := HCA.out.pat hp
       subst hA
       obtain ⟨XT, hXT⟩ : ∃ X, str p.T = X := ⟨_, rfl⟩
       obtain ⟨XS, hXS⟩ : ∃ X, str p.S = X := ⟨_, rfl⟩
       obtain ⟨xm, hxm⟩ : ∃ X, p.m = X := ⟨_, rfl⟩
       rw [hXT] at u0
       rw [hXS] at u1
       rw [hxm] at u2
       have q0 : ∀ y, (G y).cell? ⟨pb, po + i * 3, none⟩ = some (.string XT) := fun y => ((HBG.out y).cell (p := ⟨pb, _, none⟩) hpb).trans u0
       have q1 : ∀ y, (G y).cell? ⟨pb, po + i * 3 + 1, none⟩ = some (.string XS) := fun y => ((HBG.out y).cell (p := ⟨pb, _, none⟩) hpb).trans u1
       have q2 : ∀ y, (G y).cell? ⟨pb, po + i * 3 + 2, none⟩ = some (.bool xm) := fun y => ((HBG.out y).cell (p := ⟨pb, _, none⟩) hpb).trans u2
       have hfl := HLO.out.1 p (.inl (List.mem_of_getElem? hp))
       have HKL := Lib.hid (Qt.calls HG.out (fun w => reflen_at p s xa w (HZ.out p (.inl (List.mem_of_getElem? hp))) hs100 XT XS xm hXT hXS hxm))
       obtain ⟨ln, hln⟩ : ∃ ln, Sc.len p (bl s) xa = ln := ⟨_, rfl⟩
       rw [hln] at HKL hfl
       have HLN := Lib.hid hln
       have HP := Lib.hid hp
       have hi1 : (i : Int) < (N : Int) := by omega
       have hi0 : (0 : Int) ≤ (i : Int) := by omega
       clear hp hXT hXS hxm u0 u1 u2 hln
       have hs1 : ln = n → 0 < n → ¬ i + 1 < xt := fun h => HLO.out.2 i p HP.out (by rw [HLN.out]; exact h)
       have HS1 := Lib.hid hs1
       clear hs1
       go_wp2_with fail
       refine Qt.start HG.out (by kernel_rfl) (by kernel_rfl) ?_
       repeat (go_big_quiet_step (with_reducible exact HKL.out _))
       refine wpQuiet_nil ?_
       intro _ hw'
       obtain ⟨z, hw''⟩ := hw'
       subst hw''
       by_cases h1 : ln = n
       ·subst h1
        by_cases h0 : 0 < ln
        ·have hni := HS1.out rfl h0
         have hniI : ¬ ((i : Int) + 1 < (xt : Int)) := by omega
         have h0I : (0 : Int) < (ln : Int) := by omega
         clear h0 hni hfl
         go_wp2_with fail
         go_roundw
         case rel => exact ⟨i + 1, by omega, by go_num, z, rfl⟩
         case measure => simp [intOf]; omega
        ·have h0I : ¬ (0 : Int) < (ln : Int) := by omega
         clear h0 hfl
         go_wp2_with fail
         go_roundw
         case rel => exact ⟨i + 1, by omega, by go_num, z, rfl⟩
         case measure => simp [intOf]; omega
       ·have hgt : ¬ (n : Int) < (ln : Int) := by omega
        have heqf : ((ln : Int) == (n : Int)) = false := by rw [beq_eq_false_iff_ne]; omega
        clear h1
        go_wp2_with fail
        go_roundw
        case rel => exact ⟨i + 1, by omega, by go_num, z, rfl⟩
        case measure => simp [intOf]; omega
      ·obtain rfl : N = i := by omega
       clear hlt2
       go_wp2_with fail
       go_loopw [17] (fun v wr' => ∃ i : Nat, i ≤ M ∧ v = .int .i64 (i : Int) ∧ ∃ y, wr' = G y) (fun v _ => M - (intOf v).toNat)
       case atStart => exact ⟨0, by omega, rfl, y, rfl⟩
       case round =>
        obtain ⟨i, hi, rfl, y, rfl⟩ := hrel
        by_cases hlt2 : i < M
        ·obtain ⟨p, hp⟩ : ∃ p, ks[i]? = some p := ⟨_, List.getElem?_eq_getElem (by rw [HM.out]; exact hlt2)⟩
         obtain ⟨pb, po, hA, hpb, u0, u1, u2⟩ := HCK.out.pat hp
         subst hA
         obtain ⟨XT, hXT⟩ : ∃ X, str p.T = X := ⟨_, rfl⟩
         obtain ⟨XS, hXS⟩ : ∃ X, str p.S = X := ⟨_, rfl⟩
         obtain ⟨xm, hxm⟩ : ∃ X, p.m = X := ⟨_, rfl⟩
         rw [hXT] at u0
         rw [hXS] at u1
         rw [hxm] at u2
         have q0 : ∀ y, (G y).cell? ⟨pb, po + i * 3, none⟩ = some (.string XT) := fun y => ((HBG.out y).cell (p := ⟨pb, _, none⟩) hpb).trans u0
         have q1 : ∀ y, (G y).cell? ⟨pb, po + i * 3 + 1, none⟩ = some (.string XS) := fun y => ((HBG.out y).cell (p := ⟨pb, _, none⟩) hpb).trans u1
         have q2 : ∀ y, (G y).cell? ⟨pb, po + i * 3 + 2, none⟩ = some (.bool xm) := fun y => ((HBG.out y).cell (p := ⟨pb, _, none⟩) hpb).trans u2
         have hfl := HLO.out.1 p (.inr (List.mem_of_getElem? hp))
         have HKL := Lib.hid (Qt.calls HG.out (fun w => reflen_at p s xa w (HZ.out p (.inr (List.mem_of_getElem? hp))) hs100 XT XS xm hXT hXS hxm))
         obtain ⟨ln, hln⟩ : ∃ ln, Sc.len p (bl s) xa = ln := ⟨_, rfl⟩
         rw [hln] at HKL hfl
         have HLN := Lib.hid hln
         have HP := Lib.hid hp
         have hi1 : (i : Int) < (M : Int) := by omega
         have hi0 : (0 : Int) ≤ (i : Int) := by omega
         clear hp hXT hXS hxm u0 u1 u2 hln
         go_wp2_with fail
         refine Qt.start HG.out (by kernel_rfl) (by kernel_rfl) ?_
         repeat (go_big_quiet_step (with_reducible exact HKL.out _))
         refine wpQuiet_nil ?_
         intro _ hw'
         obtain ⟨z, hw''⟩ := hw'
         subst hw''
         have hgt : ¬ (n : Int) < (ln : Int) := by omega
         go_wp2_with fail
         go_roundw
         case rel => exact ⟨i + 1, by omega, by go_num, z, rfl⟩
         case measure => simp [intOf]; omega
        ·obtain rfl : M = i := by omega
         clear hlt2
         go_wp2_with fail
         go_roundw
         case rel =>
          exact ⟨k + 1, a', k', by omega, by go_num, HAP.out, HB9G.out _, HST.out, HEN.out⟩
         case measure => simp [intOf]; omega
  ·obtain rfl : l = k := by omega
   obtain rfl := hend rfl
   obtain rfl : okc = 21 := by have := HOK.out; unfold okV at this; injection this with _ this; exact this.symm
   have hl0 : decide (0 < l) = true := decide_eq_true (by have := HLJ.out; omega)
   have HL0 := Lib.hid hl0
   clear hstand hend hlt hl0
   go_wp2_with fail
   go_ret
   refine ⟨?_, HFI.out _ (HB4.out.trans (HBE.out.mono HB4.out.size))⟩
   show Ending.returned (.bool (decide (0 < l))) = _
   rw [HL0.out]
end Go.Proofs.Ytddjmhhdpfebkaa
