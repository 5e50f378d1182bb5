import Derived.Test.YtcjpmcmjnmcngaaPtE
namespace Go.Proofs.Ytcjpmcmjnmcngaa
set_option maxRecDepth 100000
open Go.RowKit
set_option linter.unusedVariables false
set_option linter.unusedSimpArgs false
theorem byte_all {p : UInt8 → Prop} (h : ∀ j, j < 256 → p (UInt8.ofNat j)) (c : UInt8) : p c := by
 have := h c.toNat c.toNat_lt
 simpa using this
set_option maxHeartbeats 4000000 in
theorem refmeets_any (T S : ByteArray) (m : Bool) (T' S' : ByteArray) (m' : Bool) (w : World) (hT : T.size ≤ 9223372036854775807) (hS : S.size ≤ 9223372036854775807) (hT' : T'.size ≤ 9223372036854775807) (hS' : S'.size ≤ 9223372036854775807) :
  Calls Try.prog 16 #[patV T S m, patV T' S' m'] w fun e w' => e = .returned (.bool (Pt.meets (bl T) (bl S) m (bl T') (bl S') m')) ∧ Below w.heap.size w w' := by
 have hA := (At.new w 23 #[.string T, .string S, .bool m]).alloc (.cells #[.string T', .string S', .bool m'] 23)
 have hA' := At.new (w.alloc (.cells #[.string T, .string S, .bool m] 23)) 23 #[.string T', .string S', .bool m']
 rw [World.size_alloc] at hA'
 have KB := Lib.hid (((Below.refl w.heap.size w).alloc (Nat.le_refl _) (.cells #[.string T, .string S, .bool m] 23)).alloc (by simp) (.cells #[.string T', .string S', .bool m'] 23))
 obtain ⟨W, hW⟩ : ∃ W, W = (w.alloc (.cells #[.string T, .string S, .bool m] 23)).alloc (.cells #[.string T', .string S', .bool m'] 23) := ⟨_, rfl⟩
 rw [← hW] at hA hA' KB
 have KW := Lib.hid hW
 obtain ⟨g, hg⟩ : ∃ g, g = w.heap.size := ⟨_, rfl⟩
 rw [← hg] at hA hA' KB
 have KG := Lib.hid hg
 have hgl := hA.lt
 have hgl' := hA'.lt
 have hsz : g ≤ W.heap.size := by omega
 have k0 := hA.cell 0
 have k1 := hA.cell 1
 have k2 := hA.cell 2
 have j0 := hA'.cell 0
 have j1 := hA'.cell 1
 have j2 := hA'.cell 2
 simp only [List.getElem?_toArray, List.getElem?_cons_zero, List.getElem?_cons_succ] at k0 k1 k2 j0 j1 j2
 have Kc : Hid (∀ w', Below W.heap.size W w' → (w'.cell? ⟨g, 0, none⟩ = some (.string T) ∧ w'.cell? ⟨g, 1, none⟩ = some (.string S) ∧ w'.cell? ⟨g, 2, none⟩ = some (.bool m)) ∧ (w'.cell? ⟨g + 1, 0, none⟩ = some (.string T') ∧ w'.cell? ⟨g + 1, 1, none⟩ = some (.string S') ∧ w'.cell? ⟨g + 1, 2, none⟩ = some (.bool m'))) := Lib.hid (fun w' hb =>
  ⟨⟨(hb.cell (p := ⟨g, 0, none⟩) hgl).trans k0, (hb.cell (p := ⟨g, 1, none⟩) hgl).trans k1, (hb.cell (p := ⟨g, 2, none⟩) hgl).trans k2⟩,
   ⟨(hb.cell (p := ⟨g + 1, 0, none⟩) hgl').trans j0, (hb.cell (p := ⟨g + 1, 1, none⟩) hgl').trans j1, (hb.cell (p := ⟨g + 1, 2, none⟩) hgl').trans j2⟩⟩)
 have KM := Lib.hid (@Pt.meets_by (bl T) (bl S) (bl T') (bl S') m m')
 obtain ⟨X, hX⟩ : ∃ X, Pt.meets (bl T) (bl S) m (bl T') (bl S') m' = X := ⟨_, rfl⟩
 rw [hX] at KM ⊢
 have K1 := Lib.hid (fun s (hs : s.size ≤ 9223372036854775807) w => refis_any T S m s w hT hS hs)
 have K2 := Lib.hid (fun s (hs : s.size ≤ 9223372036854775807) w => refis_any T' S' m' s w hT' hS' hs)
 unfold patV at K1 K2 ⊢
 have KT := Lib.hid hT
 have KT' := Lib.hid hT'
 clear hA hA' hW hg k0 k1 k2 j0 j1 j2 hX hS hS' hT hT'
 go_enter Try.func16, Try.ntmps16
 go_wp2_with fail
 rw [← KW.out, ← KG.out]
 go_wp2_with fail
 go_loopw [5] (fun i wr => ∃ k : Nat, k ≤ 256 ∧ i = .int .i64 (k : Int) ∧ Below W.heap.size W wr ∧ ∀ j, j < k → ¬ (Pt.is (bl T) (bl S) m [UInt8.ofNat j] = true ∧ Pt.is (bl T') (bl S') m' [UInt8.ofNat j] = true)) (fun i _ => 256 - (intOf i).toNat)
 case atStart => exact ⟨0, by omega, rfl, Below.refl _ _, fun j hj => by omega⟩
 case round =>
  obtain ⟨k, hk, rfl, hbe, hr⟩ := hrel
  have HR := Lib.hid hr
  have HBE := Lib.hid hbe
  clear hr hbe
  by_cases hlt : k < 256
  ·have hk0 : (0 : Int) ≤ (k : Int) := by omega
   have hki : (k : Int) < 256 := by omega
   have hu8 := u8_wrap hlt
   obtain ⟨c, hc⟩ : ∃ c : UInt8, c.toNat = k := ⟨UInt8.ofNat k, by simp; omega⟩
   have hck : UInt8.ofNat k = c := by rw [← hc]; simp
   have HC := Lib.hid hc
   have HCK := Lib.hid hck
   obtain ⟨E, hE⟩ : ∃ E, str [c] = E := ⟨_, rfl⟩
   have hEb : bl E = [c] := by rw [← hE, bl_str]
   have hEs : E.size ≤ 9223372036854775807 := by rw [← bl_length, hEb]; simp
   have HE := Lib.hid hE
   have HEB := Lib.hid hEb
   have KI1 := Lib.hid (K1.out E hEs)
   have KI2 := Lib.hid (K2.out E hEs)
   rw [hEb] at KI1 KI2
   obtain ⟨b1, hb1⟩ : ∃ b, Pt.is (bl T) (bl S) m [c] = b := ⟨_, rfl⟩
   obtain ⟨b2, hb2⟩ : ∃ b, Pt.is (bl T') (bl S') m' [c] = b := ⟨_, rfl⟩
   rw [hb1] at KI1
   rw [hb2] at KI2
   have HB1 := Lib.hid hb1
   have HB2 := Lib.hid hb2
   obtain ⟨w1, hw1⟩ : ∃ w1, w1 = wr.alloc (.cells #[.int .u8 (k : Int)] 5) := ⟨_, rfl⟩
   have HW1 := Lib.hid hw1
   have HBE1 : Hid (Below W.heap.size W w1) := Lib.hid (by rw [hw1]; exact HBE.out.alloc HBE.out.size _)
   clear hc hck hE hEb hEs hb1 hb2 hw1
   go_wp2_with fail
   rw [conv_at c (by rw [HC.out]; simp [go_sem])]
   rw [HE.out, ← HW1.out]
   obtain ⟨⟨k0, k1, k2⟩, ⟨j0, j1, j2⟩⟩ := Kc.out w1 HBE1.out
   go_wp2_with fail
   refine (KI1.out _).mono ?_
   rintro e w2 ⟨rfl, hbb⟩
   have HBE2 := Lib.hid (HBE1.out.trans (hbb.mono HBE1.out.size))
   clear hbb k0 k1 k2 j0 j1 j2
   obtain ⟨⟨k0, k1, k2⟩, ⟨j0, j1, j2⟩⟩ := Kc.out w2 HBE2.out
   go_wp2_with fail
   refine (KI2.out _).mono ?_
   rintro e w3 ⟨rfl, hbb⟩
   have HBE3 := Lib.hid (HBE2.out.trans (hbb.mono HBE2.out.size))
   clear hbb k0 k1 k2 j0 j1 j2
   cases b1 with
   | true =>
    cases b2 with
    | true =>
     have hx : X = true := KM.out.2 (.inl ⟨c, HB1.out, HB2.out⟩)
     have HX := Lib.hid hx
     clear hx
     go_wp2_with fail
     go_ret
     exact ⟨by rw [HX.out]; rfl, by have := KB.out.trans (HBE3.out.mono hsz); rwa [KG.out] at this⟩
    | false =>
     go_wp2_with fail
     go_roundw
     case rel => exact ⟨k + 1, by omega, by go_num, HBE3.out, fun j hj => by
      by_cases e : j = k
      ·rw [e, HCK.out]; intro h; rw [HB2.out] at h; cases h.2
      ·exact HR.out j (by omega)⟩
     case measure => simp [intOf]; omega
   | false =>
    go_wp2_with fail
    go_roundw
    case rel => exact ⟨k + 1, by omega, by go_num, HBE3.out, fun j hj => by
     by_cases e : j = k
     ·rw [e, HCK.out]; intro h; rw [HB1.out] at h; cases h.1
     ·exact HR.out j (by omega)⟩
    case measure => simp [intOf]; omega
  ·obtain rfl : k = 256 := by omega
   have hno : ∀ c : UInt8, ¬ (Pt.is (bl T) (bl S) m [c] = true ∧ Pt.is (bl T') (bl S') m' [c] = true) := byte_all HR.out
   have KI1 := Lib.hid (K1.out T KT.out)
   have KI2 := Lib.hid (K2.out T KT.out)
   have KI3 := Lib.hid (K1.out T' KT'.out)
   have KI4 := Lib.hid (K2.out T' KT'.out)
   obtain ⟨x1, h1⟩ : ∃ x, Pt.is (bl T) (bl S) m (bl T) = x := ⟨_, rfl⟩
   obtain ⟨x2, h2⟩ : ∃ x, Pt.is (bl T') (bl S') m' (bl T) = x := ⟨_, rfl⟩
   obtain ⟨x3, h3⟩ : ∃ x, Pt.is (bl T) (bl S) m (bl T') = x := ⟨_, rfl⟩
   obtain ⟨x4, h4⟩ : ∃ x, Pt.is (bl T') (bl S') m' (bl T') = x := ⟨_, rfl⟩
   have hx : X = ((x1 && x2) || (x3 && x4)) := by
    rw [Bool.eq_iff_iff, KM.out, h1, h2, h3, h4, Bool.or_eq_true, Bool.and_eq_true, Bool.and_eq_true]
    exact ⟨fun h => h.elim (fun ⟨c, hc⟩ => absurd hc (hno c)) id, .inr⟩
   rw [h1] at KI1
   rw [h2] at KI2
   rw [h3] at KI3
   rw [h4] at KI4
   have HX := Lib.hid hx
   obtain ⟨⟨k0, k1, k2⟩, ⟨j0, j1, j2⟩⟩ := Kc.out wr HBE.out
   clear hlt hno h1 h2 h3 h4 hx
   go_wp2_with fail
   refine (KI1.out _).mono ?_
   rintro e w2 ⟨rfl, hbb⟩
   have HBE2 := Lib.hid (HBE.out.trans (hbb.mono HBE.out.size))
   clear hbb k0 k1 k2 j0 j1 j2
   obtain ⟨⟨k0, k1, k2⟩, ⟨j0, j1, j2⟩⟩ := Kc.out w2 HBE2.out
   cases x1 with
   | true =>
    go_wp2_with fail
    refine (KI2.out _).mono ?_
    rintro e w3 ⟨rfl, hbb⟩
    have HBE3 := Lib.hid (HBE2.out.trans (hbb.mono HBE2.out.size))
    clear hbb k0 k1 k2 j0 j1 j2
    obtain ⟨⟨k0, k1, k2⟩, ⟨j0, j1, j2⟩⟩ := Kc.out w3 HBE3.out
    go_wp2_with fail
    refine (KI3.out _).mono ?_
    rintro e w4 ⟨rfl, hbb⟩
    have HBE4 := Lib.hid (HBE3.out.trans (hbb.mono HBE3.out.size))
    clear hbb k0 k1 k2 j0 j1 j2
    obtain ⟨⟨k0, k1, k2⟩, ⟨j0, j1, j2⟩⟩ := Kc.out w4 HBE4.out
    cases x3 with
    | true =>
     go_wp2_with fail
     refine (KI4.out _).mono ?_
     rintro e w5 ⟨rfl, hbb⟩
     have HBE5 := Lib.hid (HBE4.out.trans (hbb.mono HBE4.out.size))
     clear hbb k0 k1 k2 j0 j1 j2
     cases x2 <;>
     ·go_wp2_with fail
      go_ret
      exact ⟨by rw [HX.out]; rfl, by have := KB.out.trans (HBE5.out.mono hsz); rwa [KG.out] at this⟩
    | false =>
     cases x2 <;>
     ·go_wp2_with fail
      go_ret
      exact ⟨by rw [HX.out]; rfl, by have := KB.out.trans (HBE4.out.mono hsz); rwa [KG.out] at this⟩
   | false =>
    go_wp2_with fail
    refine (KI3.out _).mono ?_
    rintro e w4 ⟨rfl, hbb⟩
    have HBE4 := Lib.hid (HBE2.out.trans (hbb.mono HBE2.out.size))
    clear hbb k0 k1 k2 j0 j1 j2
    obtain ⟨⟨k0, k1, k2⟩, ⟨j0, j1, j2⟩⟩ := Kc.out w4 HBE4.out
    cases x3 with
    | true =>
     go_wp2_with fail
     refine (KI4.out _).mono ?_
     rintro e w5 ⟨rfl, hbb⟩
     have HBE5 := Lib.hid (HBE4.out.trans (hbb.mono HBE4.out.size))
     clear hbb k0 k1 k2 j0 j1 j2
     go_wp2_with fail
     go_ret
     exact ⟨by rw [HX.out]; rfl, by have := KB.out.trans (HBE5.out.mono hsz); rwa [KG.out] at this⟩
    | false =>
     go_wp2_with fail
     go_ret
     exact ⟨by rw [HX.out]; rfl, by have := KB.out.trans (HBE4.out.mono hsz); rwa [KG.out] at this⟩
def fewB (T S : ByteArray) : Bool := decide (T.size ≤ 40) && decide (S.size ≤ 300)
theorem few_any (T S : ByteArray) (m : Bool) (w : World) (hT : T.size ≤ 9223372036854775807) (hS : S.size ≤ 9223372036854775807) :
  Calls Try.prog 10 #[patV T S m] w fun e w' => e = .returned (.bool (fewB T S)) ∧ Below w.heap.size w w' := by
 have KB := Lib.hid ((Below.refl w.heap.size w).alloc (Nat.le_refl _) (.cells #[.string T, .string S, .bool m] 23))
 unfold patV fewB
 by_cases h1 : T.size ≤ 40
 ·have h1' : (T.size : Int) ≤ 40 := by omega
  by_cases h2 : S.size ≤ 300
  ·have h2' : (S.size : Int) ≤ 300 := by omega
   rw [decide_eq_true h1, decide_eq_true h2]
   go_enter Try.func10, Try.ntmps10
   go_wp2_with fail
   go_ret
   exact ⟨rfl, KB.out⟩
  ·have h2' : ¬ (S.size : Int) ≤ 300 := by omega
   rw [decide_eq_true h1, decide_eq_false h2]
   go_enter Try.func10, Try.ntmps10
   go_wp2_with fail
   go_ret
   exact ⟨rfl, KB.out⟩
 ·have h1' : ¬ (T.size : Int) ≤ 40 := by omega
  rw [decide_eq_false h1]
  go_enter Try.func10, Try.ntmps10
  go_wp2_with fail
  go_ret
  exact ⟨rfl, KB.out⟩
end Go.Proofs.Ytcjpmcmjnmcngaa
