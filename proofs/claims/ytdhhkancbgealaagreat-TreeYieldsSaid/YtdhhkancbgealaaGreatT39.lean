import Derived.Test.YtdhhkancbgealaaGreatT37
import Derived.Test.YtdhhkancbgealaaGreatT38
namespace Go.Proofs.YtdhhkancbgealaaGreat
open Go.RowKit Go.Shelf
open Lx
set_option linter.unusedVariables false
set_option linter.unusedSimpArgs false
set_option maxRecDepth 100000
def ToksIn (L : List Tr.Nd) : Prop := ∀ i : Int, tokIn (Tr.at_ L i).tok
namespace Tr
theorem at_tok_mem {L : List Nd} {p : Tok → Prop} (h0 : p Tok.zero) (h : ∀ x ∈ L, p x.tok) (i : Int) : p (at_ L i).tok := by
 unfold at_
 split
 ·cases hh : L[i.toNat]? with
  | none => exact h0
  | some x => exact h x (List.mem_of_getElem? hh)
 ·exact h0
theorem mark_tok {L : List Nd} {p : Tok → Prop} (h : ∀ x ∈ L, p x.tok) (k : Int) : ∀ x ∈ mark L k, p x.tok := by
 unfold mark
 split
 ·intro x hx
  obtain ⟨j, hj⟩ := List.getElem?_of_mem hx
  rw [List.getElem?_modify] at hj
  obtain ⟨y, hy, rfl⟩ := Option.map_eq_some_iff.1 hj
  have := h y (List.mem_of_getElem? hy)
  split <;> exact this
 ·exact h
theorem marks_tok {p : Tok → Prop} : ∀ (ks : List Int) {L : List Nd}, (∀ x ∈ L, p x.tok) → ∀ x ∈ marks L ks, p x.tok
 | [], _, h => h
 | k :: ks, _, h => marks_tok ks (mark_tok h k)
theorem step_tok {L : List Nd} {p : Tok → Prop} (h0 : p Tok.zero) (h : ∀ x ∈ L, p x.tok) (l : Int) (o : Op) (ho : p o.x) : ∀ x ∈ step l L o, p x.tok := by
 unfold step
 split
 ·unfold leaf
  split
  ·exact h
  ·intro x hx
   rcases List.mem_append.1 hx with hx | hx
   ·exact h x hx
   ·simp at hx; subst hx; exact ho
 ·split
  ·unfold node
   split
   ·split
    ·exact h
    ·intro x hx
     rcases List.mem_append.1 hx with hx | hx
     ·exact marks_tok o.ks h x hx
     ·simp at hx; subst hx; exact h0
   ·exact h
  ·split
   ·intro x hx; cases hx
   ·exact h
theorem run_tok {p : Tok → Prop} (h0 : p Tok.zero) (P : Nm.Plan) (l : Int) : ∀ (os : List Op) (L : List Nd), (∀ x ∈ L, p x.tok) → (∀ o ∈ os, p o.x) → ∀ x ∈ run P l L os, p x.tok
 | [], L, h, _ => h
 | o :: os, L, h, ho => by
  refine run_tok h0 P l os (step l L (told P L o)) (step_tok h0 h l _ ?_) (fun q hq => ho q (by simp [hq]))
  unfold told
  split
  ·exact h0
  ·exact ho o (by simp)
end Tr
theorem tokIn_zero : tokIn Tr.Tok.zero := ⟨⟨by decide, by decide⟩, ⟨by decide, by decide⟩, ⟨by decide, by decide⟩⟩
theorem Tr.Good.below_two {L : List Tr.Nd} (h : Tr.Good L) {i : Int} (hi : Tr.has L i = true) (hk : Tr.kidsOf L i ≠ []) : 2 ≤ (Tr.below L i).length := by
 rw [Tr.below_has hi, Tr.Bel_eq h.down]
 obtain ⟨k, l, e⟩ : ∃ k l, Tr.kidsOf L i = k :: l := by
  cases hh : Tr.kidsOf L i with
  | nil => exact absurd hh hk
  | cons k l => exact ⟨k, l, rfl⟩
 rw [e, List.flatMap_cons, Tr.Bel_eq h.down k]
 simp; omega
theorem toks_run {P : Nm.Plan} {l : Int} {os : List Tr.Op} (h : ∀ o ∈ os, opIn o) : ToksIn (Tr.run P l [] os) :=
 Tr.at_tok_mem tokIn_zero (Tr.run_tok (p := tokIn) tokIn_zero P l os [] (fun x hx => by cases hx) (fun o ho => ⟨(h o ho).2.2.2.1, (h o ho).2.2.2.2.1, (h o ho).2.2.2.2.2.1⟩))
theorem yield_in {L : List Tr.Nd} (h : ToksIn L) (i : Int) : ∀ x ∈ Tr.yield L i, tokIn x := fun x hx => by
 obtain ⟨k, _, hk⟩ := List.mem_flatMap.1 hx
 unfold Tr.tokOf at hk
 split at hk
 ·simp at hk; subst hk; exact h k
 ·cases hk
structure TellY (w : World) (tg : Nat) (L : List Tr.Nd) : Prop where
 yield : ∀ (i : Int) w', Below w.heap.size w w' → Calls Tryz.prog 29 #[.pointer (some ⟨tg, 0, none⟩), .int .i64 i] w' fun e w'' => ∃ A c, e = .returned (.slice A (Tr.yield L i).length c) ∧ w''.ownsRow w'.heap.size 50 3 (.slice A (Tr.yield L i).length c) (Tr.yield L i).length (toksC (Tr.yield L i)) ∧ Below w'.heap.size w' w''
 tok : ∀ (i : Int) w', Below w.heap.size w w' → Calls Tryz.prog 22 #[.pointer (some ⟨tg, 0, none⟩), .int .i64 i] w' fun e w'' => e = .returned (.agg #[.int .i64 (Tr.at_ L i).tok.t, .int .i64 (Tr.at_ L i).tok.a, .int .i64 (Tr.at_ L i).tok.b]) ∧ Below w'.heap.size w' w''
theorem Duo.tellY {w : World} {B tg g mb rt rm : Nat} {l : Int} {L M : List Tr.Nd} (h : Duo w B tg g mb rt rm l L M) (hg : Tr.Good L) (hl : L.length ≤ 40) : TellY w tg L := by
 obtain ⟨m, S, h1, rfl⟩ := h.tree
 exact ⟨fun i w' hb => tyield_any i w' B tg g mb l m S (h1.below hb) hg (by omega), fun i w' hb => ttok_any i w' B tg g mb l m S (h1.below hb)⟩
theorem yield_len {L : List Tr.Nd} (hg : Tr.Good L) (hl : L.length ≤ 40) (i : Int) : (Tr.yield L i).length ≤ 41 := by
 have h1 := hg.bel_len i
 have h2 : ∀ l : List Int, (l.flatMap (Tr.tokOf L)).length ≤ l.length := fun l => by
  induction l with
  | nil => exact Nat.le_refl _
  | cons k l ih =>
   rw [List.flatMap_cons, List.length_append, List.length_cons]
   have : (Tr.tokOf L k).length ≤ 1 := by unfold Tr.tokOf; split <;> simp
   omega
 have h3 := h2 (Tr.below L i)
 have h4 : (Tr.below L i).length ≤ (Tr.Bel L i).length := by
  unfold Tr.below
  split
  ·exact Nat.le_refl _
  ·simp
 unfold Tr.yield
 omega
set_option maxHeartbeats 8000000 in
theorem yields18_law (v : Value) (s : Sm.S) (vo : Value) (os : List Tr.Op) (W : World) (hgs : SmallC W W.heap.size v s ∧ SmSz s) (hos : OpsC W W.heap.size vo os ∧ (∀ o ∈ os, opIn o) ∧ os.length ≤ reachBytes) :
  Calls Tryz.prog 4 #[v, vo] W fun e w' => e = .returned (.bool true) ∧ Below W.heap.size W w' := by
 obtain ⟨hg, hs⟩ := hgs
 obtain ⟨ho, hin, hlen⟩ := hos
 have hrb : reachBytes = 140737488351232 := rfl
 have HFEW := Lib.hid (show ∀ w', Below W.heap.size W w' → Calls Tryz.prog 7 #[v, .int .i64 20, .int .i64 8] w' fun e w'' => e = .returned (.bool (Sm.few s 20 8)) ∧ Below w'.heap.size w' w'' from fun w' hw' => sfew_any v s 20 8 W.heap.size w' (hg.below hw') hw'.size hs (by decide) (by decide))
 have HPLN := Lib.hid (fun (hl5 : Sm.nl s ≤ 5) (h20 : s.lefts.length ≤ 20) (h8 : ∀ l ∈ s.rights, l.length ≤ 8) (w' : World) (hw' : Below W.heap.size W w') => splan_any v s W.heap.size w' (hg.below hw') hw'.size hs hl5 h20 h8)
 have HF18 := Lib.hid (fun (w' : World) (hw' : Below W.heap.size W w') => few18_any vo os W.heap.size w' (ho.below hw') hw'.size (by omega) (fun o h => by have := (hin o h).2.2.2.2.2.2.2; omega))
 obtain ⟨AO, cO, ql, rfl, _⟩ := id ho
 have HO := Lib.hid ho
 have HIN := Lib.hid hin
 obtain ⟨x1, x2, E1, m1, f1, E2, m2, f2, E3, m3, f3, E4, m4, f4, E5, m5, f5, rfl⟩ := small_form hg
 have HAT0 := Lib.hid (At.new W 25 #[.int .u8 x1, .int .u8 x2, .slice E1 m1 f1, .slice E2 m2 f2, .slice E3 m3 f3, .slice E4 m4 f4, .slice E5 m5 f5])
 have HB0 := Lib.hid ((Below.refl W.heap.size W).alloc (Nat.le_refl _) (.cells #[.int .u8 x1, .int .u8 x2, .slice E1 m1 f1, .slice E2 m2 f2, .slice E3 m3 f3, .slice E4 m4 f4, .slice E5 m5 f5] 25))
 obtain ⟨on, hon⟩ : ∃ n, os.length = n := ⟨_, rfl⟩
 rw [hon] at HF18 HO ⊢
 have HON := Lib.hid hon
 clear hg hs ho hin hlen hon hrb
 go_enter Tryz.func4, Tryz.ntmps4
 go_wp2_with fail
 refine (awake18_any _).mono ?_
 rintro e w1 ⟨rfl, hb1⟩
 have HAT1 := Lib.hid (HAT0.out.below hb1 HAT0.out.lt)
 have HB1 := Lib.hid (HB0.out.trans (hb1.mono HB0.out.size))
 have ht1 := HAT1.out.lt
 clear hb1
 have x0 := HAT1.out.cell 0
 have x1' := HAT1.out.cell 1
 have x2' := HAT1.out.cell 2
 have x3 := HAT1.out.cell 3
 have x4 := HAT1.out.cell 4
 have x5 := HAT1.out.cell 5
 have x6 := HAT1.out.cell 6
 simp only [List.getElem?_toArray, List.getElem?_cons_zero, List.getElem?_cons_succ] at x0 x1' x2' x3 x4 x5 x6
 go_wp2_with fail
 refine (HFEW.out w1 HB1.out).mono ?_
 rintro e w2 ⟨rfl, hb2⟩
 have HAT2 := Lib.hid (HAT1.out.below hb2 ht1)
 have HB2 := Lib.hid (HB1.out.trans (hb2.mono HB1.out.size))
 clear hb2 x0 x1' x2' x3 x4 x5 x6 ht1 HAT1
 go_wp2_with fail
 refine (HF18.out w2 HB2.out).mono ?_
 rintro e w3 ⟨rfl, hb3⟩
 have HAT3 := Lib.hid (HAT2.out.below hb3 HAT2.out.lt)
 have HB3 := Lib.hid (HB2.out.trans (hb3.mono HB2.out.size))
 clear hb3 HAT2 HB2 HB1
 cases hfew : Sm.few s 20 8 with
 | false =>
  go_wp2_with fail
  go_ret
  exact ⟨rfl, HB3.out⟩
 | true =>
 cases hf18 : Tr.few os with
 | false =>
  go_wp2_with fail
  go_ret
  exact ⟨rfl, HB3.out⟩
 | true =>
 obtain ⟨h20, hl5, h8⟩ := few_partsT hfew
 have HPL := Lib.hid (HPLN.out hl5 h20 h8 w3 HB3.out)
 have HPS := Lib.hid (small_plan h20 h8)
 obtain ⟨PP, hPP⟩ : ∃ P, Nm.plan (Sm.gram s) = P := ⟨_, rfl⟩
 rw [hPP] at HPL HPS
 have HF := Lib.hid hf18
 have ht3 := HAT3.out.lt
 have x0 := HAT3.out.cell 0
 have x1' := HAT3.out.cell 1
 have x2' := HAT3.out.cell 2
 have x3 := HAT3.out.cell 3
 have x4 := HAT3.out.cell 4
 have x5 := HAT3.out.cell 5
 have x6 := HAT3.out.cell 6
 simp only [List.getElem?_toArray, List.getElem?_cons_zero, List.getElem?_cons_succ] at x0 x1' x2' x3 x4 x5 x6
 clear hfew hf18 h20 hl5 h8 HPLN HFEW HF18 HB0 HAT0 hPP
 go_wp2_with fail
 refine HPL.out.mono ?_
 rintro e w4 ⟨⟨pv, rfl, hpl⟩, hb4⟩
 have HB4 := Lib.hid (HB3.out.trans (hb4.mono HB3.out.size))
 have HPR := Lib.hid hpl.planR
 clear hpl hb4 HPL x0 x1' x2' x3 x4 x5 x6 ht3
 have HMD := Lib.hid (made_any pv PP _ os w4 W.heap.size HPR.out HPS.out (HO.out.below HB4.out) HB4.out.size HIN.out HF.out)
 go_wp2_with fail
 refine HMD.out.mono ?_
 rintro e w5 ⟨B, tg, g, mb, rt, rm, rfl, hdu, hBl, hb5⟩
 have HB5 := Lib.hid (HB4.out.trans (hb5.mono HB4.out.size))
 have htk : ToksIn (Tr.run PP 1000 [] os) := toks_run HIN.out
 have hgd : Tr.Good (Tr.run PP 1000 [] os) := Tr.run_good _ _ _ _ Tr.good_nil
 have hll : (Tr.run PP 1000 [] os).length ≤ 40 := by
  have h1 := Tr.run_len PP 1000 os []
  have h2 := (Tr.few_of HF.out).1
  simp at h1; omega
 obtain ⟨L, hL⟩ : ∃ L, Tr.run PP 1000 [] os = L := ⟨_, rfl⟩
 rw [hL] at hdu hgd hll htk
 have HTK := Lib.hid htk
 have HDU := Lib.hid hdu
 have HGD := Lib.hid hgd
 have HLL := Lib.hid hll
 clear htk hdu hgd hll hL hb5 hBl HMD
 have HTL := Lib.hid (HDU.out.tell HGD.out HLL.out)
 have HTY := Lib.hid (HDU.out.tellY HGD.out HLL.out)
 clear HDU HPR HPS HO HIN HF HAT3 HB4 HB3
 obtain ⟨n, hn⟩ : ∃ n, L.length = n := ⟨_, rfl⟩
 have HN := Lib.hid hn
 have hn40 : n ≤ 40 := by rw [← hn]; exact HLL.out
 have HLE := Lib.hid HTL.out.len
 rw [hn] at HLE
 clear hn
 go_wp2_with fail
 go_loopw [10] (fun i wr => ∃ j : Nat, j ≤ n ∧ i = .int .i64 (j : Int) ∧ Below w5.heap.size w5 wr) (fun i _ => n - (intOf i).toNat)
 case atStart => exact ⟨0, by omega, rfl, Below.refl _ _⟩
 case round =>
  obtain ⟨j, hj, rfl, hb⟩ := hrel
  have HB := Lib.hid hb
  have HLE1 := Lib.hid (HLE.out wr hb)
  clear hb
  by_cases hlt : j < n
  case neg =>
   obtain rfl : n = j := by omega
   go_wp2_with fail
   refine HLE1.out.mono ?_
   rintro e w6 ⟨rfl, rfl⟩
   go_wp2_with fail
   go_ret
   exact ⟨rfl, HB5.out.trans (HB.out.mono HB5.out.size)⟩
  case pos =>
  have hji : (j : Int) < (n : Int) := by omega
  have hhas : Tr.has L (j : Int) = true := Tr.has_of (by rw [HN.out]; exact hlt)
  have HHA := Lib.hid hhas
  obtain ⟨K, hK⟩ : ∃ K, Tr.kidsOf L (j : Int) = K := ⟨_, rfl⟩
  have HK := Lib.hid hK
  have HKI := Lib.hid (HTL.out.kids (j : Int) wr HB.out)
  rw [show (Tr.at_ L (j : Int)).kids = K from hK] at HKI
  obtain ⟨kn, hkn⟩ : ∃ kn, K.length = kn := ⟨_, rfl⟩
  rw [hkn] at HKI
  have HKN := Lib.hid hkn
  have HKL := Lib.hid (show kn ≤ 40 from by have := HGD.out.kids_len (j : Int); rw [HK.out, hkn, HN.out] at this; omega)
  clear hhas hK hkn
  go_wp2_with fail
  refine HLE1.out.mono ?_
  rintro e w6 ⟨rfl, rfl⟩
  clear HLE1
  go_wp2_with fail
  refine HKI.out.mono ?_
  rintro e w6 ⟨KA, kc, rfl, hko, hb6⟩
  have HB6 := Lib.hid (HB.out.trans (hb6.mono HB.out.size))
  have HLK := Lib.hid (Lie.own hko)
  clear hko hb6 HKI
  go_wp2_with fail
  go_loopw [12, 13] (fun a q wq => ∃ (p : Nat) (A : Option Addr) (c : Nat) (X : List Tr.Tok), p ≤ kn ∧ q = .int .i64 (p : Int) ∧ a = .slice A X.length c ∧ (K.take p).flatMap (Tr.yield L) = X ∧ X.length ≤ p * 41 ∧ wq.ownsRow w5.heap.size 50 3 (.slice A X.length c) X.length (toksC X) ∧ Below w5.heap.size w5 wq ∧ Lie wq 3 KA (vals K)) (fun _ q _ => kn - (intOf q).toNat)
  case atStart => exact ⟨0, none, 0, [], by omega, rfl, rfl, rfl, by simp, World.ownsRow_nil _ _ _ _, HB6.out, HLK.out⟩
  case round =>
   obtain ⟨p, A, c, X, hp, rfl, rfl, hX, hXl, ho, hb, hlk⟩ := hrel
   have HX := Lib.hid hX
   have HOX := Lib.hid ho
   have HBQ := Lib.hid hb
   have HLQ := Lib.hid hlk
   have hkl := HKL.out
   obtain ⟨m0, hm0⟩ : ∃ m0, X.length = m0 := ⟨_, rfl⟩
   rw [hm0] at HOX hXl ⊢
   have HM := Lib.hid hm0
   clear hX ho hb hlk hm0
   by_cases hlt2 : p < kn
   case pos =>
    have hpi : (p : Int) < (kn : Int) := by omega
    have hp0 : (0 : Int) ≤ (p : Int) := by omega
    obtain ⟨x, hx⟩ : ∃ x, K[p]? = some x := ⟨_, List.getElem?_eq_getElem (by rw [HKN.out]; exact hlt2)⟩
    obtain ⟨b, o, rfl, hbl, hc⟩ := lie_at HLQ.out hx
    have HYI := Lib.hid (HTY.out.yield x wr HBQ.out)
    have hyl := yield_len HGD.out HLL.out x
    have HTA := Lib.hid (show (K.take (p + 1)).flatMap (Tr.yield L) = X ++ Tr.yield L x by rw [take_snocT hx, List.flatMap_append, HX.out]; simp)
    obtain ⟨Y, hY⟩ : ∃ Y, Tr.yield L x = Y := ⟨_, rfl⟩
    rw [hY] at HYI hyl HTA
    obtain ⟨yn, hyn⟩ : ∃ yn, Y.length = yn := ⟨_, rfl⟩
    rw [hyn] at HYI hyl
    have HYN := Lib.hid hyn
    obtain ⟨j0, hj0, hj1, hj2, hj3⟩ := info_parts infoTokT
    clear hx hY hyn
    go_wp2_with fail
    refine HYI.out.mono ?_
    rintro e w7 ⟨YA, yc, rfl, hyo, hb7⟩
    have HB7 := Lib.hid (HBQ.out.trans (hb7.mono HBQ.out.size))
    have HO7 := Lib.hid (own_below HOX.out hb7 (fun k hk => (HOX.out.lt k hk).2))
    have HL7 := Lib.hid (HLQ.out.below hb7)
    have HY7 := Lib.hid (Lie.own hyo)
    clear hyo hb7 HYI
    go_wp2_with (at_builtin; (refine wpList_append_own3T _ rfl (.tmp 52) (.tmp 58) 63 rfl w5.heap.size 50 j0 _ 3 24 Tryz.underlying63 hj0 hj1 hj2 hj3 rfl (by decide) _ m0 (toksC X) rfl HO7.out YA yn yc (toksC Y) rfl (by rw [toksC_len, HYN.out]) (LiesT_lie HY7.out) (toksC_one _) (by unfold maxLen; omega) (by omega) HB7.out.size ?_; intro v8 w8 ho8 hg8 hn8; obtain ⟨a8, c8, rfl⟩ := own_form ho8; have hb8 := HB7.out.grown hg8 HB7.out.size (fun k hk => (HO7.out.lt k hk).1); have hl8 : Lie w8 3 (some ⟨b, o, none⟩) (vals K) := HL7.out.stay (Stay.own HO7.out (by decide) hg8); have HO8 := Lib.hid ho8; have HB8 := Lib.hid hb8; have HL8 := Lib.hid hl8; clear ho8 hg8 hn8 hb8 hl8))
    go_roundw
    case rel =>
     refine ⟨p + 1, a8, c8, X ++ Y, by omega, by go_num, by rw [List.length_append, HM.out, HYN.out], HTA.out, by rw [List.length_append, HM.out, HYN.out]; omega, ?_, HB8.out, HL8.out⟩
     rw [List.length_append, HM.out, HYN.out, toksC_append]; exact HO8.out
    case measure => simp [intOf]; omega
   case neg =>
   obtain rfl : kn = p := by omega
   rw [List.take_of_length_le (by rw [HKN.out]; exact Nat.le_refl _)] at HX
   have HBE := Lib.hid (HTL.out.below (j : Int) wr HBQ.out)
   obtain ⟨BL, hBL⟩ : ∃ x, Tr.below L (j : Int) = x := ⟨_, rfl⟩
   rw [hBL] at HBE
   obtain ⟨bn, hbn⟩ : ∃ n, BL.length = n := ⟨_, rfl⟩
   rw [hbn] at HBE
   obtain ⟨Y, hY⟩ : ∃ Y, Tr.yield L (j : Int) = Y := ⟨_, rfl⟩
   obtain ⟨yn, hyn⟩ : ∃ yn, Y.length = yn := ⟨_, rfl⟩
   have hyl := yield_len HGD.out HLL.out (j : Int)
   rw [hY, hyn] at hyl
   have HYI := Lib.hid (fun w' hb => HTY.out.yield (j : Int) w' hb)
   rw [hY, hyn] at HYI
   have HYN := Lib.hid hyn
   have hye := HGD.out.yield_eq HHA.out
   rw [hY, HK.out, HX.out] at hye
   have HYE := Lib.hid hye
   have HYS := Lib.hid (show ∀ x ∈ Y, tokIn x by rw [← hY]; exact yield_in HTK.out _)
   have HXS := Lib.hid (show ∀ x ∈ X, tokIn x by rw [← HX.out]; intro x hx; obtain ⟨k, _, hk⟩ := List.mem_flatMap.1 hx; exact yield_in HTK.out _ x hk)
   have HBT := Lib.hid (show (kn = 0 → bn = 1) ∧ (kn ≠ 0 → 2 ≤ bn) from ⟨fun h => by rw [← hbn, ← hBL, HGD.out.below_one HHA.out (by rw [HK.out]; exact List.eq_nil_of_length_eq_zero (by rw [HKN.out]; exact h))]; rfl, fun h => by rw [← hbn, ← hBL]; exact HGD.out.below_two HHA.out (by rw [HK.out]; intro e; rw [← HKN.out, e] at h; exact h rfl)⟩)
   have HTN := Lib.hid (show kn ≠ 0 → Tr.tokOf L (j : Int) = [] from fun h => HGD.out.tok_none HHA.out (by rw [HK.out]; intro e; rw [← HKN.out, e] at h; exact h rfl))
   have HTO := Lib.hid (show Tr.tokOf L (j : Int) = if (Tr.at_ L (j : Int)).leaf = true then [(Tr.at_ L (j : Int)).tok] else [] from rfl)
   clear hBL hbn hY hyn hye
   go_wp2_with fail
   refine HBE.out.mono ?_
   rintro e w7 ⟨BA, bc, rfl, hbo, hb7⟩
   have HB7 := Lib.hid (HBQ.out.trans (hb7.mono HBQ.out.size))
   have HO7 := Lib.hid (own_below HOX.out hb7 (fun k hk => (HOX.out.lt k hk).2))
   clear hbo hb7 HBE
   go_wp2_with fail
   refine (HYI.out w7 HB7.out).mono ?_
   rintro e w8 ⟨YA, yc, rfl, hyo, hb8⟩
   have HB8 := Lib.hid (HB7.out.trans (hb8.mono HB7.out.size))
   have HO8 := Lib.hid (own_below HO7.out hb8 (fun k hk => (HO7.out.lt k hk).2))
   have HY8 := Lib.hid (Lie.own hyo)
   clear hyo hb8 HYI
   by_cases hk0 : kn = 0
   case pos =>
    obtain rfl : bn = 1 := HBT.out.1 hk0
    subst hk0
    have hX0 : X = [] := by rw [← HX.out, List.eq_nil_of_length_eq_zero HKN.out]; rfl
    have hYT : Y = Tr.tokOf L (j : Int) := by rw [HYE.out, hX0]; rfl
    cases hlf : (Tr.at_ L (j : Int)).leaf with
    | false =>
     have hY0 : Y = [] := by rw [hYT, HTO.out, hlf]; rfl
     obtain rfl : yn = 0 := by rw [← HYN.out, hY0]; rfl
     obtain ⟨GW, hGW⟩ := Qt.class_of w8.heap.size w8 (Nat.le_refl _)
     obtain ⟨xw, hxw⟩ := hGW.onto w8 (Below.refl _ _)
     have HGW := Lib.hid hGW
     have HXW := Lib.hid hxw
     clear hX0 hYT hlf hY0 hGW hxw
     go_wp2_with fail
     rw [HXW.out]
     refine Qt.start HGW.out (by kernel_rfl) (by kernel_rfl) ?_
     repeat (go_big_quiet_step (fail))
     refine wpQuiet_nil ?_
     intro _ hw'
     obtain ⟨y, hw''⟩ := hw'
     subst hw''
     have HB9 := Lib.hid (HB8.out.trans ((HGW.out.below y).mono HB8.out.size))
     go_wp2_with fail
     go_roundw
     case rel => exact ⟨j + 1, by omega, by go_num, HB9.out⟩
     case measure => simp [intOf]; omega
    | true =>
     have hY1 : Y = [(Tr.at_ L (j : Int)).tok] := by rw [hYT, HTO.out, hlf]; rfl
     obtain rfl : yn = 1 := by rw [← HYN.out, hY1]; rfl
     obtain ⟨b9, o9, _, rfl, hat9, hc9⟩ := HY8.out.ex (by rw [hY1]; simp [toksC, tokC])
     obtain ⟨GW, hGW⟩ := Qt.class_of w8.heap.size w8 (Nat.le_refl _)
     obtain ⟨xw, hxw⟩ := hGW.onto w8 (Below.refl _ _)
     have HGW := Lib.hid hGW
     have HXW := Lib.hid hxw
     have HTK1 := Lib.hid (calls_atT hGW (fun x => HTY.out.tok (j : Int) (GW x) (HB8.out.trans ((hGW.below x).mono HB8.out.size))))
     have htin := HTK.out (j : Int)
     obtain ⟨⟨t0, t1, t2⟩, ht⟩ : ∃ t, (Tr.at_ L (j : Int)).tok = t := ⟨_, rfl⟩
     rw [ht] at HTK1 htin hY1
     dsimp only at HTK1
     have hnq := neq_toksT _ _ htin htin
     dsimp only at hnq
     rw [decide_eq_true rfl] at hnq
     rw [hY1] at hc9
     have c0 := (hat9.cell _).trans (hc9 0 (.int .i64 t0) rfl)
     have c1 := (hat9.cell _).trans (hc9 1 (.int .i64 t1) rfl)
     have c2 := (hat9.cell _).trans (hc9 2 (.int .i64 t2) rfl)
     simp only [Nat.add_zero] at c0
     have g0 := Qt.cell hGW hat9.lt c0
     have g1 := Qt.cell hGW hat9.lt c1
     have g2 := Qt.cell hGW hat9.lt c2
     clear hX0 hYT hlf hGW hxw hY1 htin ht hc9 hat9 c0 c1 c2
     go_wp2_with fail
     rw [HXW.out]
     refine Qt.start HGW.out (by kernel_rfl) (by kernel_rfl) ?_
     repeat (go_big_quiet_step (with_reducible exact HTK1.out _))
     refine wpQuiet_nil ?_
     intro _ hw'
     obtain ⟨y, hw''⟩ := hw'
     subst hw''
     have HB9 := Lib.hid (HB8.out.trans ((HGW.out.below y).mono HB8.out.size))
     go_wp2_with fail
     go_roundw
     case rel => exact ⟨j + 1, by omega, by go_num, HB9.out⟩
     case measure => simp [intOf]; omega
   case neg =>
    have hXY : Y = X := by rw [HYE.out, HTN.out hk0]; simp
    have hb2 := HBT.out.2 hk0
    have HTS := Lib.hid (toks_any YA A yn m0 yc c Y X w8 HYN.out HM.out HY8.out (Lie.own HO8.out) (by omega) HYS.out HXS.out)
    rw [decide_eq_true hXY] at HTS
    have hbe : ((bn : Int) == 1) = false := by simp; omega
    clear hXY hb2 hk0
    go_wp2_with fail
    refine HTS.out.mono ?_
    rintro e w9 ⟨rfl, hb9⟩
    have HB9 := Lib.hid (HB8.out.trans (hb9.mono HB8.out.size))
    clear hb9 HTS
    go_wp2_with fail
    go_roundw
    case rel => exact ⟨j + 1, by omega, by go_num, HB9.out⟩
    case measure => simp [intOf]; omega
end Go.Proofs.YtdhhkancbgealaaGreat
