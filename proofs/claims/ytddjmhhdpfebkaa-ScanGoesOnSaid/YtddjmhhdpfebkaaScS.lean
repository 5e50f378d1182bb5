import Derived.Test.YtddjmhhdpfebkaaScR
import Derived.Test.YtddjmhhdpfebkaaPtC
namespace Go.Proofs.Ytddjmhhdpfebkaa
set_option maxRecDepth 100000
open Go.RowKit
set_option linter.unusedVariables false
set_option linter.unusedSimpArgs false
theorem bl_get (X : ByteArray) (m : Nat) (h : m < X.size) : (bl X)[m]? = some X[m] := by
 have := congrArg List.head? (bl_drop X m h)
 rwa [List.head?_drop, List.head?_cons] at this
theorem both_get {ts ks : List P} {i : Nat} {p : P} (h : (ts ++ ks)[i]? = some p) : p ∈ ts ∨ p ∈ ks := List.mem_append.1 (List.mem_of_getElem? h)
set_option maxHeartbeats 16000000 in
theorem goeson17_law (vt : Value) (ts : List P) (vk : Value) (ks : List P) (s : ByteArray) (hs : s.size ≤ 9223372036854775807) (mo : ByteArray) (hmo : mo.size ≤ 9223372036854775807) (ci : Int) (hci : 0 ≤ ci ∧ ci ≤ 255) (w : World) (ht : Pats w w.heap.size vt ts) (hk : Pats w w.heap.size vk ks) :
  Calls Try.prog 6 #[vt, vk, .string s, .string mo, .int .u8 ci] w fun e w' => e = .returned (.bool true) ∧ Below w.heap.size w w' := by
 obtain ⟨A, c, rfl, hcl, hA⟩ := ht.ex
 obtain ⟨Ak, ck, rfl, hck, hAk⟩ := hk.ex
 have HZ := Lib.hid (fun p (h : p ∈ ts ∨ p ∈ ks) => h.elim (ht.sz p) (hk.sz p))
 have h40 := ht.len
 have h41 : ts.length ≤ 1000000000000000 := by unfold reachBytes at h40; omega
 have h42 : ks.length ≤ 1000000000000000 := by have := hk.len; unfold reachBytes at this; omega
 have H41 := Lib.hid h41
 have H42 := Lib.hid h42
 have HAK := Lib.hid hAk
 have HCA := Lib.hid hcl
 have HCK := Lib.hid hck
 have HAW := Lib.hid (awake_any w)
 have HMA := Lib.hid (fun w' (h : Below w.heap.size w w') => made_any A c ts Ak ks.length ck w' ((hcl.below h).mono h.size) h40)
 obtain ⟨N, hN⟩ : ∃ N, ts.length = N := ⟨_, rfl⟩
 obtain ⟨M, hM⟩ : ∃ M, ks.length = M := ⟨_, rfl⟩
 rw [hN, hM] at HMA ⊢
 rw [hN] at h41
 rw [hM] at h42
 have HN := Lib.hid hN
 have HM := Lib.hid hM
 clear ht hk hcl hck hA hAk h40 hN hM
 go_enter Try.func6, Try.ntmps6
 go_wp2_with fail
 refine HAW.out.mono ?_
 rintro e w1 ⟨rfl, hb1⟩
 have HMA1 := Lib.hid (HMA.out w1 hb1)
 go_wp2_with fail
 refine HMA1.out.mono ?_
 rintro e w2 ⟨A1, c1, ⟨rfl, hl2⟩, hb2⟩
 have hg := At.new w2 28 #[.slice A1 N c1, .slice Ak M ck, .slice none 0 0, .string ⟨#[]⟩, .slice none 0 0]
 have hbg := (Below.refl w2.heap.size w2).alloc (Nat.le_refl _) (.cells #[.slice A1 N c1, .slice Ak M ck, .slice none 0 0, .string ⟨#[]⟩, .slice none 0 0] 28)
 obtain ⟨W2, hW2⟩ : ∃ W2, w2.alloc (.cells #[.slice A1 N c1, .slice Ak M ck, .slice none 0 0, .string ⟨#[]⟩, .slice none 0 0] 28) = W2 := ⟨_, rfl⟩
 rw [hW2] at hg hbg
 obtain ⟨gb, hgb⟩ : ∃ g, g = w2.heap.size := ⟨_, rfl⟩
 rw [← hgb] at hg
 have hcl2 := (hl2.below hbg).cl
 have hbw2 := hb1.trans ((hb2.mono hb1.size).trans (hbg.mono (Nat.le_trans hb1.size hb2.size)))
 have hck2 := (HCK.out.below hbw2).mono hbw2.size
 have HR := Lib.hid (fun w' (h : Below W2.heap.size W2 w') => And.intro (And.intro ((hg.below h hg.lt).cell 0) (And.intro ((hg.below h hg.lt).cell 1) (And.intro ((hg.below h hg.lt).cell 2) (And.intro ((hg.below h hg.lt).cell 3) ((hg.below h hg.lt).cell 4))))) (And.intro ((hcl2.below h).mono h.size) ((hck2.below h).mono h.size)))
 simp only [List.getElem?_toArray, List.getElem?_cons_zero, List.getElem?_cons_succ] at HR
 have HFI := Lib.hid (fun w' (h : Below W2.heap.size W2 w') => hbw2.trans (h.mono hbw2.size))
 have hfe := few_any A1 c1 ts Ak ck ks W2 hcl2 hck2 H41.out H42.out HZ.out
 rw [HN.out, HM.out] at hfe
 have HFE := Lib.hid hfe
 have HW2 := Lib.hid hW2
 have HGB := Lib.hid hgb
 have HSZ := Lib.hid hbw2.size
 obtain ⟨⟨g0, g1, g2, g3, g4⟩, _⟩ := HR.out W2 (Below.refl _ _)
 clear hb1 hl2 hb2 hg hbg hW2 hgb hcl2 hbw2 hck2 hfe HMA HMA1 HAW
 go_wp2_with fail
 rw [HW2.out, ← HGB.out]
 go_wp2_with fail
 refine HFE.out.mono ?_
 rintro e w3 ⟨⟨r, rfl, hr⟩, hb3⟩
 have HB3 := Lib.hid hb3
 clear hb3 g0 g1 g2 g3 g4 HFE
 cases r with
 | false =>
  clear hr
  go_wp2_with fail
  go_ret
  exact ⟨rfl, HFI.out _ HB3.out⟩
 | true =>
 obtain ⟨hn20, hm10⟩ := hr rfl
 have HN20 := Lib.hid (show ts.length ≤ 1000 by rw [HN.out]; omega)
 have HM10 := Lib.hid (show ks.length ≤ 1000 by rw [HM.out]; omega)
 obtain ⟨⟨g0, g1, g2, g3, g4⟩, hcl3, hck3⟩ := HR.out w3 HB3.out
 clear hr
 by_cases hs : (50 : Int) < (s.size : Int)
 ·go_wp2_with fail
  go_ret
  exact ⟨rfl, HFI.out _ HB3.out⟩
 by_cases hmo : (50 : Int) < (mo.size : Int)
 ·go_wp2_with fail
  go_ret
  exact ⟨rfl, HFI.out _ HB3.out⟩
 have hs100 : s.size ≤ 1000 := by omega
 obtain ⟨cb, hcb⟩ : ∃ c : UInt8, (c.toNat : Int) = ci := ⟨UInt8.ofNat ci.toNat, by simp; omega⟩
 subst hcb
 have HCL3 := Lib.hid hcl3
 have hnm : IntKind.i64.wrap ((N : Int) + (M : Int)) = ((N + M : Nat) : Int) := by rw [Int.natCast_add]; exact IntWalk.i64_in _ (by omega)
 obtain ⟨NM, hNM⟩ : ∃ NM, N + M = NM := ⟨_, rfl⟩
 rw [hNM] at hnm
 have hnm30 : NM ≤ 30 := by omega
 have HNM := Lib.hid hNM
 clear hcl3 hck3 hNM g0 g1 g2 g3 g4
 go_wp2_with fail
 go_loopw [14] (fun v wr => ∃ i : Nat, i ≤ NM ∧ v = .int .i64 (i : Int) ∧ Below W2.heap.size W2 wr ∧ ∀ (j : Nat) (p : P), j < i → (ts ++ ks)[j]? = some p → cb ∉ p.T ∧ cb ∉ p.S) (fun v _ => NM - (intOf v).toNat)
 case atStart => exact ⟨0, by omega, rfl, HB3.out, fun j p hj => by omega⟩
 case round =>
  obtain ⟨i, hi, rfl, hbe, hno⟩ := hrel
  have HBE := Lib.hid hbe
  have HNO := Lib.hid hno
  clear hbe hno HB3
  by_cases hlt : i < NM
  ·have hlen : (ts ++ ks).length = NM := by rw [List.length_append, HN.out, HM.out]; exact HNM.out
   obtain ⟨p, hp⟩ : ∃ p, (ts ++ ks)[i]? = some p := ⟨_, List.getElem?_eq_getElem (by rw [hlen]; exact hlt)⟩
   have hsz := HZ.out p (both_get hp)
   have hiI : (i : Int) < (NM : Int) := by omega
   have hi0 : (0 : Int) ≤ (i : Int) := by omega
   obtain ⟨XT, hXT⟩ : ∃ X, str p.T = X := ⟨_, rfl⟩
   obtain ⟨XS, hXS⟩ : ∃ X, str p.S = X := ⟨_, rfl⟩
   obtain ⟨xm, hxm⟩ : ∃ X, p.m = X := ⟨_, rfl⟩
   have hTs : XT.size ≤ 140737488355328 := by rw [← hXT, str_size]; have := hsz.1; unfold reachBytes at this; omega
   have hSs : XS.size ≤ 140737488355328 := by rw [← hXS, str_size]; have := hsz.2; unfold reachBytes at this; omega
   have hcat : ¬ (9223372036854775807 < XT.size + XS.size) := by omega
   have hbl : bl (XT ++ XS) = p.T ++ p.S := by rw [bl_append, ← hXT, ← hXS, bl_str, bl_str]
   have hrs : (XT ++ XS).size = XT.size + XS.size := ByteArray.size_append
   have HP := Lib.hid hp
   have HBLC := Lib.hid hbl
   have HRS := Lib.hid hrs
   have hb9 := HBE.out.alloc HBE.out.size (.cells #[.string XT, .string XS, .bool xm] 48)
   have hbw0 := HFI.out _ HBE.out
   obtain ⟨w9, hw9⟩ : ∃ w9, wr.alloc (.cells #[.string XT, .string XS, .bool xm] 48) = w9 := ⟨_, rfl⟩
   rw [hw9] at hb9
   obtain ⟨gx, hgx⟩ : ∃ g, g = wr.heap.size := ⟨_, rfl⟩
   have HB9 := Lib.hid hb9
   have HW9 := Lib.hid hw9
   have HGX := Lib.hid hgx
   obtain ⟨X, hX⟩ : ∃ X, XT ++ XS = X := ⟨_, rfl⟩
   rw [hX] at HBLC HRS
   have HX := Lib.hid hX
   have hx63 : X.size ≤ 9223372036854775807 := by have := HRS.out; omega
   clear hlen hp hsz hbl hrs hb9 hw9 hgx hTs hSs hX
   by_cases hin : i < N
   ·have hpt : ts[i]? = some p := by have := HP.out; rwa [List.getElem?_append_left (by rw [HN.out]; exact hin)] at this
    obtain ⟨pb, po, hA, hpb, u0, u1, u2⟩ := (HCA.out.below hbw0).pat hpt
    have hpw : pb < wr.heap.size := Nat.lt_of_lt_of_le hpb hbw0.size
    subst hA
    rw [hXT] at u0
    rw [hXS] at u1
    rw [hxm] at u2
    have hinI : (i : Int) < (N : Int) := by omega
    clear hpt hXT hXS hxm hbw0
    go_wp2_with fail
    rw [HX.out, HW9.out, ← HGX.out]
    go_loopw [17] (fun v wr' => ∃ k : Nat, k ≤ X.size ∧ v = .int .i64 (k : Int) ∧ wr' = w9 ∧ ∀ (m : Nat) (h : m < X.size), m < k → X[m] ≠ cb) (fun v _ => X.size - (intOf v).toNat)
    case atStart => exact ⟨0, by omega, rfl, rfl, fun m h hm => by omega⟩
    case round =>
     obtain ⟨k, hk, rfl, rfl, hnk⟩ := hrel
     have HNK := Lib.hid hnk
     clear hnk
     by_cases hlt2 : k < X.size
     ·have hkI : (k : Int) < (X.size : Int) := by omega
      have hk0 : (0 : Int) ≤ (k : Int) := by omega
      by_cases he : X[k] = cb
      ·have heq : ((X[k].toNat : Int) == (cb.toNat : Int)) = true := by rw [he]; simp
       clear he
       go_wp2_with fail
       go_ret
       exact ⟨rfl, HFI.out _ HB9.out⟩
      ·have heq : ((X[k].toNat : Int) == (cb.toNat : Int)) = false := by
        rw [beq_eq_false_iff_ne]
        intro h
        exact he (UInt8.toNat_inj.1 (by omega))
       have HE := Lib.hid he
       clear he
       go_wp2_with fail
       go_roundw
       case rel =>
        refine ⟨k + 1, hlt2, by go_num, trivial, fun m h hm => ?_⟩
        by_cases hmk : m = k
        ·subst hmk; exact HE.out
        ·exact HNK.out m h (by omega)
       case measure => simp [intOf]; omega
     ·obtain rfl : k = X.size := by omega
      have hnox : cb ∉ p.T ∧ cb ∉ p.S := by
       have h1 : cb ∉ bl X := fun hm => by
        obtain ⟨m, hm1⟩ := List.mem_iff_getElem?.1 hm
        have hm2 : m < X.size := by rw [← bl_length]; exact (List.getElem?_eq_some_iff.1 hm1).1
        rw [bl_get X m hm2] at hm1
        injection hm1 with hm1
        exact HNK.out m hm2 hm2 hm1
       rw [HBLC.out] at h1
       exact ⟨fun h => h1 (List.mem_append_left _ h), fun h => h1 (List.mem_append_right _ h)⟩
      have HNX := Lib.hid hnox
      clear hlt2 hnox HNK
      go_wp2_with fail
      go_roundw
      case rel =>
       refine ⟨i + 1, hlt, by go_num, HB9.out, fun j' p' hj hp' => ?_⟩
       by_cases hji : j' = i
       ·subst hji
        rw [HP.out] at hp'
        injection hp' with hp'
        rw [← hp']; exact HNX.out
       ·exact HNO.out j' p' (by omega) hp'
      case measure => simp [intOf]; omega
   ·obtain ⟨ii, hii⟩ : ∃ ii, i = N + ii := ⟨i - N, by omega⟩
    have hpt : ks[ii]? = some p := by
     have := HP.out
     rwa [List.getElem?_append_right (by rw [HN.out]; omega), HN.out, show i - N = ii by omega] at this
    obtain ⟨pb, po, hA, hpb, u0, u1, u2⟩ := (HCK.out.below hbw0).pat hpt
    have hpw : pb < wr.heap.size := Nat.lt_of_lt_of_le hpb hbw0.size
    subst hA
    rw [hXT] at u0
    rw [hXS] at u1
    rw [hxm] at u2
    have hinI : ¬ (i : Int) < (N : Int) := by omega
    have hw6 : IntKind.i64.wrap ((i : Int) - (N : Int)) = (ii : Int) := by rw [IntWalk.i64_in _ (by omega)]; omega
    have hii0 : (0 : Int) ≤ (ii : Int) := by omega
    have hiiM : (ii : Int) < (M : Int) := by have := HNM.out; omega
    have HII := Lib.hid hii
    clear hpt hXT hXS hxm hbw0 hii
    go_wp2_with fail
    rw [HX.out, HW9.out, ← HGX.out]
    go_loopw [17] (fun v wr' => ∃ k : Nat, k ≤ X.size ∧ v = .int .i64 (k : Int) ∧ wr' = w9 ∧ ∀ (m : Nat) (h : m < X.size), m < k → X[m] ≠ cb) (fun v _ => X.size - (intOf v).toNat)
    case atStart => exact ⟨0, by omega, rfl, rfl, fun m h hm => by omega⟩
    case round =>
     obtain ⟨k, hk, rfl, rfl, hnk⟩ := hrel
     have HNK := Lib.hid hnk
     clear hnk
     by_cases hlt2 : k < X.size
     ·have hkI : (k : Int) < (X.size : Int) := by omega
      have hk0 : (0 : Int) ≤ (k : Int) := by omega
      by_cases he : X[k] = cb
      ·have heq : ((X[k].toNat : Int) == (cb.toNat : Int)) = true := by rw [he]; simp
       clear he
       go_wp2_with fail
       go_ret
       exact ⟨rfl, HFI.out _ HB9.out⟩
      ·have heq : ((X[k].toNat : Int) == (cb.toNat : Int)) = false := by
        rw [beq_eq_false_iff_ne]
        intro h
        exact he (UInt8.toNat_inj.1 (by omega))
       have HE := Lib.hid he
       clear he
       go_wp2_with fail
       go_roundw
       case rel =>
        refine ⟨k + 1, hlt2, by go_num, trivial, fun m h hm => ?_⟩
        by_cases hmk : m = k
        ·subst hmk; exact HE.out
        ·exact HNK.out m h (by omega)
       case measure => simp [intOf]; omega
     ·obtain rfl : k = X.size := by omega
      have hnox : cb ∉ p.T ∧ cb ∉ p.S := by
       have h1 : cb ∉ bl X := fun hm => by
        obtain ⟨m, hm1⟩ := List.mem_iff_getElem?.1 hm
        have hm2 : m < X.size := by rw [← bl_length]; exact (List.getElem?_eq_some_iff.1 hm1).1
        rw [bl_get X m hm2] at hm1
        injection hm1 with hm1
        exact HNK.out m hm2 hm2 hm1
       rw [HBLC.out] at h1
       exact ⟨fun h => h1 (List.mem_append_left _ h), fun h => h1 (List.mem_append_right _ h)⟩
      have HNX := Lib.hid hnox
      clear hlt2 hnox HNK
      go_wp2_with fail
      go_roundw
      case rel =>
       refine ⟨i + 1, hlt, by go_num, HB9.out, fun j' p' hj hp' => ?_⟩
       by_cases hji : j' = i
       ·subst hji
        rw [HP.out] at hp'
        injection hp' with hp'
        rw [← hp']; exact HNX.out
       ·exact HNO.out j' p' (by omega) hp'
      case measure => simp [intOf]; omega
  ·obtain rfl : i = NM := by omega
   have hlen : (ts ++ ks).length = i := by rw [List.length_append, HN.out, HM.out]; exact HNM.out
   have hall : ∀ p, p ∈ ts ∨ p ∈ ks → cb ∉ p.T ∧ cb ∉ p.S := fun p hp => by
    obtain ⟨m, hm1, hm2⟩ := List.mem_iff_getElem.1 (List.mem_append.2 hp)
    exact HNO.out m p (by omega) (by rw [List.getElem?_eq_getElem hm1, hm2])
   obtain ⟨L, ok, K, hct⟩ : ∃ L ok K, Sc.ct ts ks (bl s) 0 0 = (L, ok, K) := ⟨_, _, _, rfl⟩
   have hct2 : Sc.ct ts ks (bl ((s ++ str [cb]) ++ mo)) 0 0 = (L, false, K) := by
    have h := Sc.ct_stop hall (bl s) (bl mo) (bl s).length 0 0 (by omega) (by omega)
    rw [hct] at h
    simp only at h
    rw [bl_append, bl_append, bl_str, List.append_assoc]
    exact h
   obtain ⟨l, hl⟩ : ∃ l, L.length = l := ⟨_, rfl⟩
   have hl0 : 0 < l := by
    have := Sc.ct_ne ts ks (bl s) 0 0
    rw [hct] at this
    rw [← hl]
    exact List.length_pos_iff.2 this
   have hl1001 : l ≤ 1001 := by
    have := ct_len ts ks (bl s) s.size 0 0 (by rw [bl_length]; omega)
    rw [hct] at this
    simp only at this
    omega
   have hsm := ct_small (ts := ts) (ks := ks) (s := bl s) HN20.out (by rw [bl_length]; exact hs100) s.size 0 0 (by rw [bl_length]; omega) (by omega)
   rw [hct] at hsm
   simp only at hsm
   obtain ⟨S2, hS2⟩ : ∃ S2, (s ++ str [cb]) ++ mo = S2 := ⟨_, rfl⟩
   rw [hS2] at hct2
   have hs1 : (str [cb]).size = 1 := by rw [str_size]; rfl
   have hs2 : S2.size ≤ 1000 := by rw [← hS2, ByteArray.size_append, ByteArray.size_append, hs1]; omega
   have hcat1 : ¬ (9223372036854775807 < s.size + (str [cb]).size) := by rw [hs1]; omega
   have hcat2 : ¬ (9223372036854775807 < (s ++ str [cb]).size + mo.size) := by rw [ByteArray.size_append, hs1]; omega
   have hcat3 : ¬ (9223372036854775807 < s.size + (str [cb]).size + mo.size) := by rw [hs1]; omega
   obtain ⟨okc, hok⟩ : ∃ z : Int, okV ok = .int .i64 z := ⟨_, rfl⟩
   have HL := Lib.hid hl
   have HSM := Lib.hid hsm
   have HOK := Lib.hid hok
   have HS2 := Lib.hid hS2
   obtain ⟨⟨g0, g1, g2, g3, g4⟩, hcl3, hck3⟩ := HR.out wr HBE.out
   have HA1 := Lib.hid (all_at A1 c1 ts Ak ck ks s wr hcl3 hck3 HAK.out HN20.out HM10.out HZ.out hs100 N M HN.out HM.out L ok K hct l hl okc hok)
   have HA2 := Lib.hid (fun w' (h : Below W2.heap.size W2 w') => all_at A1 c1 ts Ak ck ks S2 w' (HR.out w' h).2.1 (HR.out w' h).2.2 HAK.out HN20.out HM10.out HZ.out hs2 N M HN.out HM.out L false K hct2 l hl 21 rfl)
   have hokc : okc = 0 ∨ okc = 21 := by
    unfold okV at hok
    injection hok with _ hok
    cases ok with
    | true => exact .inl hok.symm
    | false => exact .inr hok.symm
   have HOC := Lib.hid hokc
   have hlz : ((l : Int) == 0) = false := by rw [beq_eq_false_iff_ne]; omega
   have hll : ((l : Int) != (l : Int)) = false := by simp
   obtain ⟨SC, hSC⟩ : ∃ SC, str [cb] = SC := ⟨_, rfl⟩
   have HSC := Lib.hid hSC
   rw [hSC] at hcat1 hcat2 hcat3 HS2
   clear hall hct hct2 hl hsm hok hS2 hs1 hs2 hcl3 hck3 hlen hokc hSC HNO hlt
   go_wp2_with fail
   refine HA1.out.mono ?_
   rintro e w4 ⟨A2, c2, ⟨rfl, hl4⟩, hb4⟩
   have HB4 := Lib.hid (HBE.out.trans (hb4.mono HBE.out.size))
   have HL4 := Lib.hid hl4
   obtain ⟨⟨g0, g1, g2, g3, g4⟩, _⟩ := HR.out w4 HB4.out
   have hb5 := HB4.out.alloc HB4.out.size (.cells #[.int .u8 (cb.toNat : Int)] 5)
   have HB5 := Lib.hid hb5
   have HL5 := Lib.hid (hl4.alloc (.cells #[.int .u8 (cb.toNat : Int)] 5))
   have HA3 := Lib.hid (HA2.out _ hb5)
   obtain ⟨w5, hw5⟩ : ∃ w5, w4.alloc (.cells #[.int .u8 (cb.toNat : Int)] 5) = w5 := ⟨_, rfl⟩
   rw [hw5] at HB5 HL5 HA3
   have HW5 := Lib.hid hw5
   clear hb4 hl4 hb5 hw5 HA1 HA2
   go_wp2_with fail
   rw [conv_at cb (by simp [go_sem])]
   rw [HSC.out, HW5.out]
   go_wp2_with fail
   rw [HS2.out]
   refine HA3.out.mono ?_
   rintro e w6 ⟨A3, c3, ⟨rfl, hl6⟩, hb6⟩
   have HB6 := Lib.hid (HB5.out.trans (hb6.mono HB5.out.size))
   have HT := Lib.hid (toks_at A2 l c2 L A3 l c3 L w6.heap.size w6 (HL5.out.below hb6).cl hl6.cl (by rw [HL.out]; omega) (by rw [HL.out]; omega) HSM.out HSM.out HL.out HL.out true (decide_eq_true rfl))
   clear hl6 hb6 HA3 g0 g1 g2 g3 g4 hcat1 hcat2 hcat3
   rcases HOC.out with h0 | h0
   ·subst h0
    go_wp2_with fail
    refine HT.out.mono ?_
    rintro e w7 ⟨rfl, hb7⟩
    have HB7 := Lib.hid (HB6.out.trans (hb7.mono HB6.out.size))
    clear hb7
    go_wp2_with fail
    go_ret
    exact ⟨rfl, HFI.out _ HB7.out⟩
   ·subst h0
    go_wp2_with fail
    refine HT.out.mono ?_
    rintro e w7 ⟨rfl, hb7⟩
    have HB7 := Lib.hid (HB6.out.trans (hb7.mono HB6.out.size))
    clear hb7
    go_wp2_with fail
    go_ret
    exact ⟨rfl, HFI.out _ HB7.out⟩
end Go.Proofs.Ytddjmhhdpfebkaa
