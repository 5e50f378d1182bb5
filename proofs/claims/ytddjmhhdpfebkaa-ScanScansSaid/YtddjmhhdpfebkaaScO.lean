import Derived.Test.YtddjmhhdpfebkaaScN
namespace Go.Proofs.Ytddjmhhdpfebkaa
set_option maxRecDepth 100000
open Go.RowKit
set_option linter.unusedVariables false
set_option linter.unusedSimpArgs false
set_option maxHeartbeats 16000000 in
theorem scans17_law (vt : Value) (ts : List P) (vk : Value) (ks : List P) (s : ByteArray) (hs : s.size ≤ 9223372036854775807) (w : World) (ht : Pats w w.heap.size vt ts) (hk : Pats w w.heap.size vk ks) :
  Calls Try.prog 3 #[vt, vk, .string s] w fun e w' => e = .returned (.bool true) ∧ Below w.heap.size w w' := by
 obtain ⟨A, c, rfl, hcl, hA⟩ := ht.ex
 obtain ⟨Ak, ck, rfl, hck, hAk⟩ := hk.ex
 have HZ := Lib.hid (fun p (h : p ∈ ts ∨ p ∈ ks) => h.elim (ht.sz p) (hk.sz p))
 have h40 := ht.len
 have h41 : ts.length ≤ 1000000000000000 := by unfold reachBytes at h40; omega
 have h42 : ks.length ≤ 1000000000000000 := by have := hk.len; unfold reachBytes at this; omega
 have H41 := Lib.hid h41
 have H42 := Lib.hid h42
 have HAK := Lib.hid hAk
 have HCA := Lib.hid hcl
 have HCK := Lib.hid hck
 have HAW := Lib.hid (awake_any w)
 have HMA := Lib.hid (fun w' (h : Below w.heap.size w w') => made_any A c ts Ak ks.length ck w' ((hcl.below h).mono h.size) h40)
 obtain ⟨N, hN⟩ : ∃ N, ts.length = N := ⟨_, rfl⟩
 obtain ⟨M, hM⟩ : ∃ M, ks.length = M := ⟨_, rfl⟩
 rw [hN, hM] at HMA ⊢
 rw [hN] at h41
 rw [hM] at h42
 have HN := Lib.hid hN
 have HM := Lib.hid hM
 clear ht hk hcl hck hA hAk h40 hN hM
 go_enter Try.func3, Try.ntmps3
 go_wp2_with fail
 refine HAW.out.mono ?_
 rintro e w1 ⟨rfl, hb1⟩
 have HMA1 := Lib.hid (HMA.out w1 hb1)
 go_wp2_with fail
 refine HMA1.out.mono ?_
 rintro e w2 ⟨A1, c1, ⟨rfl, hl2⟩, hb2⟩
 have hg := At.new w2 28 #[.slice A1 N c1, .slice Ak M ck, .slice none 0 0, .string ⟨#[]⟩, .slice none 0 0]
 have hbg := (Below.refl w2.heap.size w2).alloc (Nat.le_refl _) (.cells #[.slice A1 N c1, .slice Ak M ck, .slice none 0 0, .string ⟨#[]⟩, .slice none 0 0] 28)
 obtain ⟨W2, hW2⟩ : ∃ W2, w2.alloc (.cells #[.slice A1 N c1, .slice Ak M ck, .slice none 0 0, .string ⟨#[]⟩, .slice none 0 0] 28) = W2 := ⟨_, rfl⟩
 rw [hW2] at hg hbg
 obtain ⟨gb, hgb⟩ : ∃ g, g = w2.heap.size := ⟨_, rfl⟩
 rw [← hgb] at hg
 have hcl2 := (hl2.below hbg).cl
 have hbw2 := hb1.trans ((hb2.mono hb1.size).trans (hbg.mono (Nat.le_trans hb1.size hb2.size)))
 have hck2 := (HCK.out.below hbw2).mono hbw2.size
 have HR := Lib.hid (fun w' (h : Below W2.heap.size W2 w') => And.intro (And.intro ((hg.below h hg.lt).cell 0) (And.intro ((hg.below h hg.lt).cell 1) (And.intro ((hg.below h hg.lt).cell 2) (And.intro ((hg.below h hg.lt).cell 3) ((hg.below h hg.lt).cell 4))))) (And.intro ((hcl2.below h).mono h.size) ((hck2.below h).mono h.size)))
 simp only [List.getElem?_toArray, List.getElem?_cons_zero, List.getElem?_cons_succ] at HR
 have HFI := Lib.hid (fun w' (h : Below W2.heap.size W2 w') => hbw2.trans (h.mono hbw2.size))
 have hfe := few_any A1 c1 ts Ak ck ks W2 hcl2 hck2 H41.out H42.out HZ.out
 rw [HN.out, HM.out] at hfe
 have HFE := Lib.hid hfe
 have HW2 := Lib.hid hW2
 have HGB := Lib.hid hgb
 have HSZ := Lib.hid hbw2.size
 obtain ⟨⟨g0, g1, g2, g3, g4⟩, _⟩ := HR.out W2 (Below.refl _ _)
 clear hb1 hl2 hb2 hg hbg hW2 hgb hcl2 hbw2 hck2 hfe HMA HMA1 HAW
 go_wp2_with fail
 rw [HW2.out, ← HGB.out]
 go_wp2_with fail
 refine HFE.out.mono ?_
 rintro e w3 ⟨⟨r, rfl, hr⟩, hb3⟩
 have HB3 := Lib.hid hb3
 clear hb3 g0 g1 g2 g3 g4 HFE
 cases r with
 | false =>
  clear hr
  go_wp2_with fail
  go_ret
  exact ⟨rfl, HFI.out _ HB3.out⟩
 | true =>
 obtain ⟨hn20, hm10⟩ := hr rfl
 have HN20 := Lib.hid (show ts.length ≤ 1000 by rw [HN.out]; omega)
 have HM10 := Lib.hid (show ks.length ≤ 1000 by rw [HM.out]; omega)
 obtain ⟨⟨g0, g1, g2, g3, g4⟩, hcl3, hck3⟩ := HR.out w3 HB3.out
 clear hr
 by_cases hs : (100 : Int) < (s.size : Int)
 ·go_wp2_with fail
  go_ret
  exact ⟨rfl, HFI.out _ HB3.out⟩
 have hs100 : s.size ≤ 1000 := by omega
 obtain ⟨L, ok, K, hct⟩ : ∃ L ok K, Sc.ct ts ks (bl s) 0 0 = (L, ok, K) := ⟨_, _, _, rfl⟩
 obtain ⟨j, hl⟩ : ∃ j, L.length = j + 1 := ⟨L.length - 1, by
  have := Sc.ct_ne ts ks (bl s) 0 0
  rw [hct] at this
  have := List.length_pos_iff.2 this
  simp only at this
  omega⟩
 have hl101 : j + 1 ≤ 1001 := by
  have := ct_len ts ks (bl s) s.size 0 0 (by rw [bl_length]; omega)
  rw [hct] at this
  simp only at this
  omega
 have hsm := ct_small (ts := ts) (ks := ks) (s := bl s) HN20.out (by rw [bl_length]; exact hs100) s.size 0 0 (by rw [bl_length]; omega) (by omega)
 rw [hct] at hsm
 simp only at hsm
 obtain ⟨okc, hok⟩ : ∃ z : Int, okV ok = .int .i64 z := ⟨_, rfl⟩
 obtain ⟨l, hlj⟩ : ∃ l, l = j + 1 := ⟨_, rfl⟩
 have hl' : L.length = l := by omega
 have hl1001 : l ≤ 1001 := by omega
 have HLL := Lib.hid hl'
 have HLJ := Lib.hid hlj
 have HCT := Lib.hid hct
 have HSM := Lib.hid hsm
 have HOK := Lib.hid hok
 have HA1 := Lib.hid (all_at A1 c1 ts Ak ck ks s w3 hcl3 hck3 HAK.out HN20.out HM10.out HZ.out hs100 N M HN.out HM.out L ok K hct l hl' okc hok)
 have HA2 := Lib.hid (fun w' (h : Below W2.heap.size W2 w') => refall_at A1 c1 ts Ak ck ks s w' (HR.out w' h).2.1 (HR.out w' h).2.2 HN20.out HM10.out HZ.out hs100 N M HN.out HM.out L ok K hct l hl' okc hok)
 have HA3 := Lib.hid (fun w' (h : Below W2.heap.size W2 w') => new_at A1 c1 ts Ak ck ks s w' (HR.out w' h).2.1 (HR.out w' h).2.2 HAK.out HN20.out HM10.out N M HN.out HM.out)
 clear hct hl hsm hok hl' hlj hcl3 hck3
 go_wp2_with fail
 refine HA1.out.mono ?_
 rintro e w4 ⟨A2, c2, ⟨rfl, hl4⟩, hb4⟩
 have HB4 := Lib.hid (HB3.out.trans (hb4.mono HB3.out.size))
 have HL4 := Lib.hid hl4
 obtain ⟨⟨g0, g1, g2, g3, g4⟩, _⟩ := HR.out w4 HB4.out
 have HA2' := Lib.hid (HA2.out w4 HB4.out)
 clear hb4 hl4 HA1 HA2
 go_wp2_with fail
 refine HA2'.out.mono ?_
 rintro e w5 ⟨A3, c3, ⟨rfl, hl5⟩, hb5⟩
 have HB5 := Lib.hid (HB4.out.trans (hb5.mono HB4.out.size))
 have HL5 := Lib.hid hl5
 have HL45 := Lib.hid (HL4.out.below hb5)
 obtain ⟨⟨g0, g1, g2, g3, g4⟩, _⟩ := HR.out w5 HB5.out
 have HA3' := Lib.hid (HA3.out w5 HB5.out)
 clear hb5 hl5 HA2' HA3 HL4
 go_wp2_with fail
 refine HA3'.out.mono ?_
 rintro e w6 ⟨g, ⟨rfl, hgw, hsc⟩, hb6⟩
 have HT := Lib.hid (toks_at A2 l c2 L A3 l c3 L w6.heap.size w6 (HL45.out.below hb6).cl (HL5.out.below hb6).cl (by rw [HLL.out]; omega) (by rw [HLL.out]; omega) HSM.out HSM.out HLL.out HLL.out true (decide_eq_true rfl))
 have HSC := Lib.hid hsc
 have HB6 := Lib.hid hb6
 have HLM := Lib.hid HL5.out.cl
 have hne : (okc != okc) = false := by simp
 have q37 : (binOp .eql 37 (.pointer (some ⟨g, 0, none⟩)) (.pointer none)).run Try.prog w6 = .ok (.bool false) w6 := by rfl
 clear hsc hb6 HA3' g0 g1 g2 g3 g4 HL45 HL5
 go_wp2_with fail
 refine HT.out.mono ?_
 rintro e w7 ⟨rfl, hb7⟩
 have HSC7 := Lib.hid (HSC.out.below hb7)
 have HB7 := Lib.hid (HB6.out.trans (hb7.mono HB6.out.size))
 clear hb7 HSC HB6 HT q37 hne
 have hwl : IntKind.i64.wrap ((l : Int) - 1) = (j : Int) := by have := HLJ.out; rw [IntWalk.i64_in _ (by omega)]; omega
 go_wp2_with fail
 go_loopw [16] (fun i wr => ∃ (k a kk : Nat), k ≤ l ∧ i = .int .i64 (k : Int) ∧ IsSc wr g s ts ks a kk ∧ a ≤ s.size ∧ kk ≤ a ∧ Below w5.heap.size w5 wr ∧ Sc.Stand ts ks (bl s) L ok K k a kk) (fun i _ => l - (intOf i).toNat)
 case atStart => exact ⟨0, 0, 0, by omega, rfl, HSC7.out, by omega, by omega, HB7.out, Sc.Stand.begin_ HCT.out⟩
 case round =>
  obtain ⟨k, a, kk, hk, rfl, hsc, ha, hkk, hbe, hstand⟩ := hrel
  have HBE := Lib.hid hbe
  by_cases hlt : k < l
  ·obtain ⟨x, ok', a', k', hnx⟩ := Sc.nx_is ts ks (bl s) s.size a kk (by rw [bl_length]; omega)
   obtain ⟨hx, hst, ht0, ht1⟩ := hstand.next (by rw [HLL.out]; exact hlt) hnx
   have hcall := next_any g a kk s ts ks wr HZ.out hs100 HN20.out HM10.out hsc ha hkk
   rw [hnx.is] at hcall
   have HCA := Lib.hid hcall
   have HX := Lib.hid hx
   have HST := Lib.hid hst
   have hki : (k : Int) < (l : Int) := by omega
   have hk0 : (0 : Int) ≤ (k : Int) := by omega
   have hcase : (ok = true ∧ ok' = true) ∨ (ok = false ∧ ok' = false ∧ k = j) ∨ (ok = false ∧ ok' = true ∧ k ≠ j) := by
    have e1 := HLL.out
    have e2 := HLJ.out
    by_cases hxt : x.t = 0
    ·obtain ⟨e3, e4⟩ := ht0 hxt
     cases ok with
     | true => exact .inl ⟨rfl, e3⟩
     | false => exact .inr (.inl ⟨rfl, e3, by omega⟩)
    ·obtain ⟨e3, e4⟩ := ht1 hxt
     cases ok with
     | true => exact .inl ⟨rfl, e3⟩
     | false => exact .inr (.inr ⟨rfl, e3, by omega⟩)
   have HCS := Lib.hid hcase
   clear hsc hbe hstand hcall hnx hx hst ht0 ht1 hcase
   go_wp2_with fail
   refine HCA.out.mono ?_
   rintro e w8 hN
   obtain rfl := hN.e
   have HLE := Lib.hid hN.le
   have hb8 := HBE.out.grown hN.grown HBE.out.size (fun q hq => by injection hq with hq; omega)
   obtain ⟨okc', hokc⟩ : ∃ z : Int, okV ok' = .int .i64 z := ⟨_, rfl⟩
   have HOK' := Lib.hid hokc
   obtain ⟨xt, xa, xb⟩ := x
   have hsx := HSM.out _ (List.mem_of_getElem? HX.out)
   have hq := neq_tok ⟨xt, xa, xb⟩ hsx
   unfold Tk.val Tk.cells at hq ⊢
   simp only at hq ⊢
   rw [hokc]
   have hat := At.new w8 41 #[.int .i64 (xt : Int), .int .i64 (xa : Int), .int .i64 (xb : Int)]
   have hbb := (Below.refl w8.heap.size w8).alloc (Nat.le_refl _) (.cells #[.int .i64 (xt : Int), .int .i64 (xa : Int), .int .i64 (xb : Int)] 41)
   have HSC9 := Lib.hid (hN.sc.below hbb)
   have hb9 := hb8.trans (hbb.mono hb8.size)
   obtain ⟨b, o, hA3, hbl, z0, z1, z2⟩ := (HLM.out.below hb9).tk HX.out
   subst hA3
   obtain ⟨w9, hw9⟩ : ∃ w9, w8.alloc (.cells #[.int .i64 (xt : Int), .int .i64 (xa : Int), .int .i64 (xb : Int)] 41) = w9 := ⟨_, rfl⟩
   rw [hw9] at hat HSC9 hb9 z0 z1 z2
   obtain ⟨gx, hgx⟩ : ∃ g, g = w8.heap.size := ⟨_, rfl⟩
   rw [← hgx] at hat
   have y0 := hat.cell 0
   have y1 := hat.cell 1
   have y2 := hat.cell 2
   simp only [List.getElem?_toArray, List.getElem?_cons_zero, List.getElem?_cons_succ] at y0 y1 y2
   have HB9 := Lib.hid hb9
   have HW9 := Lib.hid hw9
   have HGX := Lib.hid hgx
   clear hN hb8 hokc hsx hat hbb hb9 hw9 hgx HCA
   rcases HCS.out with ⟨e1, e2⟩ | ⟨e1, e2, e3⟩ | ⟨e1, e2, e3⟩
   ·subst e1 e2
    obtain rfl : okc = 0 := by have := HOK.out; unfold okV at this; injection this with _ this; exact this.symm
    obtain rfl : okc' = 0 := by have := HOK'.out; unfold okV at this; injection this with _ this; exact this.symm
    go_wp2_with fail
    rw [HW9.out, ← HGX.out]
    go_wp2_with fail
    go_quiet (fail)
    obtain ⟨w10, hw10⟩ : ∃ w10, w9.drewN nq = w10 := ⟨_, rfl⟩
    rw [hw10]
    have HSC10 := Lib.hid (show IsSc w10 g s ts ks a' k' by rw [← hw10]; exact HSC9.out.heap rfl)
    have HB10 := Lib.hid (show Below w5.heap.size w5 w10 by rw [← hw10]; exact below_drewN HB9.out _)
    clear hw10
    go_wp2_with fail
    go_roundw
    case rel => exact ⟨k + 1, a', k', by omega, by go_num, HSC10.out, HLE.out.2, HLE.out.1, HB10.out, HST.out⟩
    case measure => simp [intOf]; omega
   ·subst e1 e2
    obtain rfl : okc = 21 := by have := HOK.out; unfold okV at this; injection this with _ this; exact this.symm
    obtain rfl : okc' = 21 := by have := HOK'.out; unfold okV at this; injection this with _ this; exact this.symm
    have heq : ((k : Int) == (j : Int)) = true := by rw [beq_iff_eq]; omega
    clear e3
    go_wp2_with fail
    rw [HW9.out, ← HGX.out]
    go_wp2_with fail
    go_quiet (fail)
    obtain ⟨w10, hw10⟩ : ∃ w10, w9.drewN nq = w10 := ⟨_, rfl⟩
    rw [hw10]
    have HSC10 := Lib.hid (show IsSc w10 g s ts ks a' k' by rw [← hw10]; exact HSC9.out.heap rfl)
    have HB10 := Lib.hid (show Below w5.heap.size w5 w10 by rw [← hw10]; exact below_drewN HB9.out _)
    clear hw10
    go_wp2_with fail
    go_roundw
    case rel => exact ⟨k + 1, a', k', by omega, by go_num, HSC10.out, HLE.out.2, HLE.out.1, HB10.out, HST.out⟩
    case measure => simp [intOf]; omega
   ·subst e1 e2
    obtain rfl : okc = 21 := by have := HOK.out; unfold okV at this; injection this with _ this; exact this.symm
    obtain rfl : okc' = 0 := by have := HOK'.out; unfold okV at this; injection this with _ this; exact this.symm
    have heq : ((k : Int) == (j : Int)) = false := by rw [beq_eq_false_iff_ne]; omega
    clear e3
    go_wp2_with fail
    rw [HW9.out, ← HGX.out]
    go_wp2_with fail
    go_quiet (fail)
    obtain ⟨w10, hw10⟩ : ∃ w10, w9.drewN nq = w10 := ⟨_, rfl⟩
    rw [hw10]
    have HSC10 := Lib.hid (show IsSc w10 g s ts ks a' k' by rw [← hw10]; exact HSC9.out.heap rfl)
    have HB10 := Lib.hid (show Below w5.heap.size w5 w10 by rw [← hw10]; exact below_drewN HB9.out _)
    clear hw10
    go_wp2_with fail
    go_roundw
    case rel => exact ⟨k + 1, a', k', by omega, by go_num, HSC10.out, HLE.out.2, HLE.out.1, HB10.out, HST.out⟩
    case measure => simp [intOf]; omega
  ·obtain rfl : l = k := by omega
   obtain ⟨hnx, hKK, hlast⟩ := hstand.done HLL.out.symm
   subst hKK
   have hlast : L[j]? = some ⟨0, a, a⟩ := by
    rw [← hlast]
    congr 1
    have := HLL.out
    have := HLJ.out
    omega
   have hcall := next_any g a kk s ts ks wr HZ.out hs100 HN20.out HM10.out hsc ha hkk
   rw [hnx] at hcall
   have HCA := Lib.hid hcall
   have HX := Lib.hid hlast
   have hj0 : (0 : Int) ≤ (j : Int) := by omega
   have hjl : (j : Int) < (l : Int) := by have := HLJ.out; omega
   clear hsc hbe hstand hcall hnx hlast hlt
   go_wp2_with fail
   refine HCA.out.mono ?_
   rintro e w8 hN
   obtain rfl := hN.e
   have hb8 := HBE.out.grown hN.grown HBE.out.size (fun q hq => by injection hq with hq; omega)
   have hq : ∀ w, (binOp .eql 41 (.agg #[.int .i64 0, .int .i64 (a : Int), .int .i64 (a : Int)]) (.agg #[.int .i64 0, .int .i64 (a : Int), .int .i64 (a : Int)])).run Try.prog w = .ok (.bool true) w := eql_tok ⟨0, a, a⟩ (HSM.out _ (List.mem_of_getElem? HX.out))
   unfold Tk.val Tk.cells
   simp only
   rw [HOK.out]
   have hat := At.new w8 41 #[.int .i64 0, .int .i64 (a : Int), .int .i64 (a : Int)]
   have hbb := (Below.refl w8.heap.size w8).alloc (Nat.le_refl _) (.cells #[.int .i64 0, .int .i64 (a : Int), .int .i64 (a : Int)] 41)
   have HSC9 := Lib.hid (hN.sc.below hbb)
   have hb9 := hb8.trans (hbb.mono hb8.size)
   obtain ⟨b, o, hA3, hbl, z0, z1, z2⟩ := (HLM.out.below hb9).tk HX.out
   subst hA3
   have z0 : (w8.alloc (.cells #[.int .i64 0, .int .i64 (a : Int), .int .i64 (a : Int)] 41)).cell? ⟨b, o + j * 3, none⟩ = some (.int .i64 0) := z0
   obtain ⟨w9, hw9⟩ : ∃ w9, w8.alloc (.cells #[.int .i64 0, .int .i64 (a : Int), .int .i64 (a : Int)] 41) = w9 := ⟨_, rfl⟩
   rw [hw9] at hat HSC9 hb9 z0 z1 z2
   obtain ⟨gx, hgx⟩ : ∃ g, g = w8.heap.size := ⟨_, rfl⟩
   rw [← hgx] at hat
   have y0 := hat.cell 0
   have y1 := hat.cell 1
   have y2 := hat.cell 2
   simp only [List.getElem?_toArray, List.getElem?_cons_zero, List.getElem?_cons_succ] at y0 y1 y2
   have hcc := HSC9.out.cells
   have HSK := Lib.hid (fun n => skipped_any g (.int .i64 (kk : Int)) (w9.drewN n) hcc.2.2.1)
   have HAY := Lib.hid (fun n => at_any g (.int .i64 (a : Int)) (w9.drewN n) hcc.2.1)
   have HB9 := Lib.hid hb9
   have HW9 := Lib.hid hw9
   have HGX := Lib.hid hgx
   have ho1 : (okc == okc) = true := by simp
   clear hN hb8 hat hbb hb9 hw9 hgx HCA hcc HSC9
   go_wp2_with fail
   rw [HW9.out, ← HGX.out]
   go_quiet (first | exact Calls.quiet_of (HSK.out _) | exact Calls.quiet_of (HAY.out _))
   go_wp2_with fail
   go_ret
   exact ⟨rfl, HFI.out _ (below_drewN (HB5.out.trans (HB9.out.mono HB5.out.size)) _)⟩
end Go.Proofs.Ytddjmhhdpfebkaa
