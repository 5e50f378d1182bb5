import Derived.Test.YtcjpmcmjnmcngaaPtD
namespace Go.Proofs.Ytcjpmcmjnmcngaa
set_option maxRecDepth 100000
open Go.RowKit
set_option linter.unusedVariables false
set_option linter.unusedSimpArgs false
set_option maxHeartbeats 1000000 in
theorem refis_any (T S : ByteArray) (m : Bool) (s : ByteArray) (w : World) (hT : T.size ≤ 9223372036854775807) (hS : S.size ≤ 9223372036854775807) (hs : s.size ≤ 9223372036854775807) :
  Calls Try.prog 14 #[patV T S m, .string s] w fun e w' => e = .returned (.bool (Pt.is (bl T) (bl S) m (bl s))) ∧ Below w.heap.size w w' := by
 have KA := Lib.hid (At.new w 23 #[.string T, .string S, .bool m])
 have KB := Lib.hid ((Below.refl w.heap.size w).alloc (Nat.le_refl _) (.cells #[.string T, .string S, .bool m] 23))
 have KL := Lib.hid (fun w => reflen_any T S m s 0 w hT hS hs)
 obtain ⟨L, hL⟩ : ∃ L, Pt.lenAt (bl T) (bl S) m (bl s) 0 = L := ⟨_, rfl⟩
 have hLl : L ≤ s.size := by rw [← hL, ← bl_length]; exact Pt.lenAt_le
 rw [hL] at KL
 have hv : Pt.is (bl T) (bl S) m (bl s) = (decide (0 < L) && decide (L = s.size)) := by
  unfold Pt.is
  by_cases h0 : bl s = []
  ·have : s.size = 0 := by rw [← bl_length, h0]; rfl
   have : ¬ 0 < L := by omega
   simp [h0, this]
  ·rw [Pt.lenAt_zero h0] at hL
   have hp : 0 < s.size := by rw [← bl_length]; exact List.length_pos_iff.2 h0
   rw [hL, bl_length]
   by_cases h2 : L = s.size
   ·have : 0 < L := by omega
    simp [h0, h2, hp]
   ·simp [h2]
 rw [hv]
 clear hv hL
 have k0 := KA.out.cell 0
 have k1 := KA.out.cell 1
 have k2 := KA.out.cell 2
 simp only [List.getElem?_toArray, List.getElem?_cons_zero, List.getElem?_cons_succ] at k0 k1 k2
 unfold patV at KL ⊢
 by_cases hp : 0 < L
 ·have hp2 : (0 : Int) < (L : Int) := by omega
  have hb : ((L : Int) == (s.size : Int)) = decide (L = s.size) := by
   rw [Bool.eq_iff_iff, beq_iff_eq, decide_eq_true_iff]; omega
  rw [decide_eq_true hp, Bool.true_and]
  obtain ⟨b, hbe⟩ : ∃ b, decide (L = s.size) = b := ⟨_, rfl⟩
  rw [hbe] at hb ⊢
  clear hbe hp
  go_enter Try.func14, Try.ntmps14
  go_wp2_with fail
  refine (KL.out _).mono ?_
  rintro e w1 ⟨rfl, hb1⟩
  clear k0 k1 k2
  go_wp2_with fail
  go_ret
  exact ⟨rfl, KB.out.trans (hb1.mono (by simp))⟩
 ·have hp2 : ¬ (0 : Int) < (L : Int) := by omega
  rw [decide_eq_false hp, Bool.false_and]
  clear hp
  go_enter Try.func14, Try.ntmps14
  go_wp2_with fail
  refine (KL.out _).mono ?_
  rintro e w1 ⟨rfl, hb1⟩
  clear k0 k1 k2
  go_wp2_with fail
  go_ret
  exact ⟨rfl, KB.out.trans (hb1.mono (by simp))⟩
set_option maxHeartbeats 2000000 in
theorem refexample_any (T S : ByteArray) (m : Bool) (w : World) (hT : T.size ≤ 9223372036854775807) (hS : S.size ≤ 9223372036854775807) :
  Calls Try.prog 18 #[patV T S m] w fun e w' => e = .returned (.string (str (Pt.ex (bl T) (bl S)))) ∧ Below w.heap.size w w' := by
 have hA := At.new w 23 #[.string T, .string S, .bool m]
 have KB := Lib.hid ((Below.refl w.heap.size w).alloc (Nat.le_refl _) (.cells #[.string T, .string S, .bool m] 23))
 obtain ⟨W, hW⟩ : ∃ W, W = w.alloc (.cells #[.string T, .string S, .bool m] 23) := ⟨_, rfl⟩
 rw [← hW] at hA KB
 have KW := Lib.hid hW
 obtain ⟨g, hg⟩ : ∃ g, g = w.heap.size := ⟨_, rfl⟩
 rw [← hg] at hA KB
 have KG := Lib.hid hg
 have hgl := hA.lt
 have hsz : g ≤ W.heap.size := by omega
 have k0 := hA.cell 0
 have k1 := hA.cell 1
 have k2 := hA.cell 2
 simp only [List.getElem?_toArray, List.getElem?_cons_zero, List.getElem?_cons_succ] at k0 k1 k2
 clear hA hW hg
 unfold patV
 by_cases h1 : bl T = []
 ·obtain ⟨z1, z2⟩ := empty_yes h1
  have hv : Pt.ex (bl T) (bl S) = Pt.firstS (Pt.fS (bl S)) := if_pos h1
  rw [hv]
  have KI := Lib.hid (fun k w => in_any S k w hS)
  obtain ⟨F, hF⟩ : ∃ F, Pt.fS (bl S) = F := ⟨_, rfl⟩
  rw [hF] at KI ⊢
  clear hv h1 hF
  have Kk1 := Lib.hid k1
  go_enter Try.func18, Try.ntmps18
  go_wp2_with fail
  rw [← KW.out, ← KG.out]
  go_wp2_with fail
  clear k0 k1 k2
  go_loopw [3] (fun i wr => ∃ k : Nat, k ≤ 256 ∧ i = .int .i64 (k : Int) ∧ Below W.heap.size W wr ∧ ∀ j, j < k → F j = false) (fun i _ => 256 - (intOf i).toNat)
  case atStart => exact ⟨0, by omega, rfl, Below.refl _ _, fun j hj => by omega⟩
  case round =>
   obtain ⟨k, hk, rfl, hbe, hr⟩ := hrel
   have HR := Lib.hid hr
   have HBE := Lib.hid hbe
   have k1 := (hbe.cell (p := ⟨g, 1, none⟩) hgl).trans Kk1.out
   clear hr hbe
   by_cases hlt : k < 256
   ·have hk0 : (0 : Int) ≤ (k : Int) := by omega
    have hki : (k : Int) < 256 := by omega
    have hu8 := u8_wrap hlt
    have KI1 := Lib.hid (KI.out k wr)
    cases hF : F k with
    | true =>
     rw [hF] at KI1
     have HF := Lib.hid hF
     obtain ⟨c, hc⟩ : ∃ c : UInt8, c.toNat = k := ⟨UInt8.ofNat k, by simp; omega⟩
     have hck : c = UInt8.ofNat k := by rw [← hc]; simp
     have HV := Lib.hid (Pt.first_some hlt hF HR.out)
     rw [← hck] at HV
     have HC := Lib.hid hc
     clear hF hc hck
     go_wp2_with fail
     refine KI1.out.mono ?_
     rintro e w1 ⟨rfl, hb1⟩
     have KB1 := Lib.hid (KB.out.trans ((HBE.out.trans (hb1.mono HBE.out.size)).mono hsz))
     clear hb1 k1
     go_wp2_with fail
     rw [conv_at c (by rw [HC.out]; simp [go_sem])]
     rw [← HV.out]
     obtain ⟨X, hX⟩ : ∃ X, str (Pt.firstS F) = X := ⟨_, rfl⟩
     rw [hX]
     have HX := Lib.hid hX
     clear hX
     go_wp2_with fail
     go_ret
     refine ⟨by rw [HX.out]; rfl, ?_⟩
     have := KB1.out.alloc (by have := KB1.out.size; rwa [← KG.out] at this) (.cells #[.int .u8 (k : Int)] 5)
     rwa [KG.out] at this
    | false =>
     rw [hF] at KI1
     have HF := Lib.hid hF
     clear hF
     go_wp2_with fail
     refine KI1.out.mono ?_
     rintro e w1 ⟨rfl, hb1⟩
     have HBE1 := Lib.hid (HBE.out.trans (hb1.mono HBE.out.size))
     clear hb1 k1
     go_wp2_with fail
     go_roundw
     case rel => exact ⟨k + 1, by omega, by go_num, HBE1.out, fun j hj => by
      by_cases e : j = k
      ·rw [e]; exact HF.out
      ·exact HR.out j (by omega)⟩
     case measure => simp [intOf]; omega
   ·obtain rfl : k = 256 := by omega
    clear hlt
    go_wp2_with fail
    go_ret
    exact ⟨by rw [Pt.first_none HR.out]; rfl, by have := KB.out.trans (HBE.out.mono hsz); rwa [KG.out] at this⟩
 ·obtain ⟨z1, z2⟩ := empty_no h1
  have hv : Pt.ex (bl T) (bl S) = bl T := if_neg h1
  rw [hv, str_bl]
  clear hv h1
  go_enter Try.func18, Try.ntmps18
  go_wp2_with fail
  rw [← KW.out, ← KG.out]
  go_wp2_with fail
  go_ret
  exact ⟨rfl, by have := KB.out; rwa [KG.out] at this⟩
theorem Pt.is_text {T S X : List UInt8} {m : Bool} (h : T ≠ []) : Pt.is T S m X = true ↔ X = T := by
 unfold Pt.is Pt.len
 rw [if_neg h, Bool.and_eq_true, decide_eq_true_iff, decide_eq_true_iff]
 constructor
 ·rintro ⟨h1, h2⟩
  by_cases hp : T.isPrefixOf X = true
  ·rw [if_pos hp] at h2
   exact ((List.isPrefixOf_iff_prefix.1 hp).eq_of_length h2).symm
  ·rw [if_neg hp] at h2
   exact absurd (List.length_eq_zero_iff.1 h2.symm) h1
 ·rintro rfl
  exact ⟨h, by rw [if_pos (List.isPrefixOf_iff_prefix.2 (List.prefix_refl X))]⟩
theorem Pt.is_nil {T S : List UInt8} {m : Bool} : Pt.is T S m [] = false := by unfold Pt.is; simp
theorem Pt.is_byte {S : List UInt8} {m : Bool} {c : UInt8} : Pt.is [] S m [c] = Pt.fS S c.toNat := by
 unfold Pt.is Pt.len
 rw [if_pos rfl, show (if m = true then [c] else [c].take 1) = [c] by split <;> rfl]
 unfold Pt.run Pt.run
 cases h : Pt.fS S c.toNat <;> simp
theorem Pt.meets_by {T S T' S' : List UInt8} {m m' : Bool} :
  Pt.meets T S m T' S' m' = true ↔ (∃ c : UInt8, Pt.is T S m [c] = true ∧ Pt.is T' S' m' [c] = true) ∨ (Pt.is T S m T = true ∧ Pt.is T' S' m' T = true) ∨ (Pt.is T S m T' = true ∧ Pt.is T' S' m' T' = true) := by
 unfold Pt.meets
 by_cases h1 : T = []
 ·rw [if_pos h1]
  by_cases h2 : T' = []
  ·rw [if_pos h2]
   subst h1 h2
   rw [Pt.is_nil, Pt.is_nil, List.any_eq_true]
   constructor
   ·rintro ⟨j, hj, h⟩
    have hj := List.mem_range.1 hj
    rw [Bool.and_eq_true] at h
    refine .inl ⟨UInt8.ofNat j, ?_, ?_⟩
    ·rw [Pt.is_byte]; simpa [Nat.mod_eq_of_lt hj] using h.1
    ·rw [Pt.is_byte]; simpa [Nat.mod_eq_of_lt hj] using h.2
   ·rintro (⟨c, h3, h4⟩ | ⟨h3, _⟩ | ⟨h3, _⟩)
    ·rw [Pt.is_byte] at h3 h4
     exact ⟨c.toNat, List.mem_range.2 c.toNat_lt, by rw [h3, h4]; rfl⟩
    ·cases h3
    ·cases h3
  ·rw [if_neg h2]
   subst h1
   constructor
   ·intro h
    exact .inr (.inr ⟨h, (Pt.is_text h2).2 rfl⟩)
   ·rintro (⟨c, h3, h4⟩ | ⟨h3, _⟩ | ⟨h3, _⟩)
    ·rw [Pt.is_text h2] at h4
     rw [← h4]; exact h3
    ·rw [Pt.is_nil] at h3; cases h3
    ·exact h3
 ·rw [if_neg h1]
  constructor
  ·intro h
   exact .inr (.inl ⟨(Pt.is_text h1).2 rfl, h⟩)
  ·rintro (⟨c, h3, h4⟩ | ⟨_, h4⟩ | ⟨h3, h4⟩)
   ·rw [Pt.is_text h1] at h3
    rw [← h3]; exact h4
   ·exact h4
   ·rw [Pt.is_text h1] at h3
    rw [← h3]; exact h4
end Go.Proofs.Ytcjpmcmjnmcngaa
