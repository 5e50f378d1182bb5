import Derived.Test.YtddjmhhdpfebkaaPtC
namespace Go.Proofs.Ytddjmhhdpfebkaa
set_option maxRecDepth 100000
open Go.RowKit
set_option linter.unusedVariables false
set_option linter.unusedSimpArgs false
theorem Pt.fS_drop {S : ByteArray} {i k : Nat} (h : i < S.size) : Pt.fS ((bl S).drop i) k = (S[i].toNat == k || Pt.fS ((bl S).drop (i + 1)) k) := by
 rw [bl_drop S i h]; rfl
theorem in_any (S : ByteArray) (k : Nat) (w : World) (hS : S.size ≤ 9223372036854775807) :
  Calls Try.prog 23 #[.string S, .int .u8 (k : Int)] w fun e w' => e = .returned (.bool (Pt.fS (bl S) k)) ∧ Below w.heap.size w w' := by
 obtain ⟨b, hb⟩ : ∃ b, Pt.fS (bl S) k = b := ⟨_, rfl⟩
 rw [hb]
 have KB := Lib.hid hb
 clear hb
 go_enter Try.func23, Try.ntmps23
 go_wp2_with fail
 go_loopw [5] (fun t wr => ∃ i : Nat, i ≤ S.size ∧ t = .int .i64 (i : Int) ∧ wr = w ∧ Pt.fS ((bl S).drop i) k = b) (fun t _ => S.size - (intOf t).toNat)
 case atStart => exact ⟨0, by omega, rfl, rfl, KB.out⟩
 case round =>
  obtain ⟨i, hi, rfl, rfl, hr⟩ := hrel
  by_cases hlt : i < S.size
  ·have hi0 : (0 : Int) ≤ (i : Int) := by omega
   have hii : (i : Int) < (S.size : Int) := by omega
   rw [Pt.fS_drop hlt] at hr
   by_cases he : S[i].toNat = k
   ·have c1 : ((S[i].toNat : Int) == (k : Int)) = true := by rw [he]; simp
    have hb : b = true := by rw [← hr, he]; simp
    have KBT := Lib.hid hb
    clear hr hb he
    go_wp2_with fail
    go_ret
    exact ⟨by rw [KBT.out]; rfl, Below.refl _ _⟩
   ·have c1 : ((S[i].toNat : Int) == (k : Int)) = false := by rw [beq_eq_false_iff_ne]; omega
    have h2 : (S[i].toNat == k) = false := by rw [beq_eq_false_iff_ne]; exact he
    rw [h2, Bool.false_or] at hr
    have KR := Lib.hid hr
    clear hr h2 he
    go_wp2_with fail
    go_roundw
    case rel => exact ⟨i + 1, by omega, by go_num, trivial, KR.out⟩
    case measure => simp [intOf]; omega
  ·obtain rfl : i = S.size := by omega
   rw [List.drop_of_length_le (by rw [bl_length]; omega)] at hr
   have KR := Lib.hid hr
   clear hr
   go_wp2_with fail
   go_ret
   exact ⟨by rw [← KR.out]; rfl, Below.refl _ _⟩
theorem Pt.run_one (F : Nat → Bool) (s : List UInt8) : Pt.run F (s.take 1) = if 1 < Pt.run F s then 1 else Pt.run F s := by
 cases s with
 | nil => rfl
 | cons c r =>
  show Pt.run F [c] = _
  unfold Pt.run
  by_cases h : F c.toNat = true
  ·rw [if_pos h, if_pos h]
   show 0 + 1 = _
   split <;> omega
  ·rw [if_neg h, if_neg h]; rfl
set_option maxHeartbeats 2000000 in
theorem reflen_any (T S : ByteArray) (m : Bool) (s : ByteArray) (a : Int) (w : World) (hT : T.size ≤ 9223372036854775807) (hS : S.size ≤ 9223372036854775807) (hs : s.size ≤ 9223372036854775807) :
  Calls Try.prog 18 #[patV T S m, .string s, .int .i64 a] w fun e w' => e = .returned (.int .i64 (Pt.lenAt (bl T) (bl S) m (bl s) a : Int)) ∧ Below w.heap.size w w' := by
 have KA := Lib.hid (At.new w 48 #[.string T, .string S, .bool m])
 have KB := Lib.hid ((Below.refl w.heap.size w).alloc (Nat.le_refl _) (.cells #[.string T, .string S, .bool m] 48))
 have hsz : w.heap.size ≤ (w.alloc (.cells #[.string T, .string S, .bool m] 48)).heap.size := by simp
 obtain ⟨W, hW⟩ : ∃ W, W = w.alloc (.cells #[.string T, .string S, .bool m] 48) := ⟨_, rfl⟩
 rw [← hW] at KA KB hsz
 have KW := Lib.hid hW
 unfold patV
 by_cases h0 : a < 0
 ·rw [Pt.lenAt_low h0]
  clear hW hsz
  go_enter Try.func18, Try.ntmps18
  go_wp2_with fail
  go_ret
  exact ⟨rfl, by have := KB.out; rwa [KW.out] at this⟩
 obtain ⟨n, rfl⟩ : ∃ n : Nat, a = n := ⟨a.toNat, by omega⟩
 by_cases h1 : s.size ≤ n
 ·have h1' : (s.size : Int) ≤ (n : Int) := by omega
  rw [Pt.lenAt_high (by rw [bl_length]; exact h1')]
  clear hW hsz
  go_enter Try.func18, Try.ntmps18
  go_wp2_with fail
  go_ret
  exact ⟨rfl, by have := KB.out; rwa [KW.out] at this⟩
 have h2 : n < s.size := by omega
 have h2' : (n : Int) < (s.size : Int) := by omega
 have h3 : (n : Int) ≤ (s.size : Int) := by omega
 have h4 : ¬ (s.size : Int) ≤ (n : Int) := by omega
 rw [Pt.lenAt_in (by rw [bl_length]; exact h2)]
 have hR := bl_end s n
 have hRs : (s.extract n s.size).size = s.size - n := by rw [ByteArray.size_extract]; omega
 rw [← hR]
 obtain ⟨R, hRe⟩ : ∃ R, s.extract n s.size = R := ⟨_, rfl⟩
 rw [hRe]
 rw [hRe] at hRs
 have hRl : R.size ≤ 9223372036854775807 := by omega
 clear hR hRs
 obtain ⟨g, hg⟩ : ∃ g, g = w.heap.size := ⟨_, rfl⟩
 have KG := Lib.hid hg
 rw [← hg] at KA KB hsz
 have hgl := KA.out.lt
 have k0 := KA.out.cell 0
 have k1 := KA.out.cell 1
 have k2 := KA.out.cell 2
 simp only [List.getElem?_toArray, List.getElem?_cons_zero, List.getElem?_cons_succ] at k0 k1 k2
 clear hW hg
 obtain ⟨G, hG⟩ := Qt.class_of W.heap.size W (Nat.le_refl _)
 have HG := Lib.hid hG
 clear hG
 by_cases hT0 : bl T = []
 ·have ht0 : T.size = 0 := by rw [← bl_length, hT0]; rfl
  have hti : (T.size : Int) = 0 := by omega
  have KT := Lib.hid hT0
  obtain ⟨F, hF⟩ : ∃ F, Pt.fS (bl S) = F := ⟨_, rfl⟩
  have KI := Lib.hid (fun k w => in_any S k w hS)
  rw [hF] at KI
  have hv : Pt.len (bl T) (bl S) m (bl R) = if m = false ∧ 1 < Pt.run F (bl R) then 1 else Pt.run F (bl R) := by
   unfold Pt.len
   rw [if_pos hT0, hF]
   cases m with
   | true => simp
   | false => rw [if_neg (by decide), Pt.run_one]; simp
  rw [hv]
  clear hv hF hT0
  obtain ⟨X, hX⟩ : ∃ X, (if m = false ∧ 1 < Pt.run F (bl R) then 1 else Pt.run F (bl R)) = X := ⟨_, rfl⟩
  rw [hX]
  have KX := Lib.hid hX
  clear hX
  go_enter Try.func18, Try.ntmps18
  go_wp2_with fail
  rw [← KW.out, ← KG.out]
  go_wp2_with fail
  clear k0 k1 k2
  have k1 := Qt.cell HG.out hgl (by have := KA.out.cell 1; simpa using this : W.cell? ⟨g, 1, none⟩ = some (.string S))
  go_loopw [8] (fun t wr => ∃ k : Nat, k ≤ R.size ∧ t = .int .i64 (k : Int) ∧ Below W.heap.size W wr ∧ Pt.run F (bl R) = k + Pt.run F ((bl R).drop k)) (fun t _ => R.size - (intOf t).toNat)
  case atStart => exact ⟨0, by omega, by first | rfl | (rw [hti]; rfl), Below.refl _ _, by simp⟩
  case round =>
   obtain ⟨k, hk, rfl, hbe, hr⟩ := hrel
   have HBE := Lib.hid hbe
   clear hbe
   by_cases hlt : k < R.size
   ·have hk0 : (0 : Int) ≤ (k : Int) := by omega
    have hki : (k : Int) < (R.size : Int) := by omega
    have c1 : ∀ x, Calls Try.prog 23 #[.string S, .int .u8 (R[k].toNat : Int)] (G x) fun e w'' => e = .returned (.bool (F R[k].toNat)) ∧ ∃ y, w'' = G y := Qt.calls HG.out (KI.out R[k].toNat)
    rw [Pt.run_drop hlt] at hr
    cases hF : F R[k].toNat with
    | true =>
     rw [hF] at c1 hr
     have K1 := Lib.hid c1
     have KR := Lib.hid hr
     clear c1 hr hF
     go_wp2_with fail
     refine Qt.begin_ HG.out HBE.out (by kernel_rfl) (by kernel_rfl) ?_
     repeat (go_big_quiet_step (first | with_reducible exact K1.out _))
     refine wpQuiet_nil ?_
     intro _ hw'
     obtain ⟨x, hw''⟩ := hw'
     subst hw''
     go_wp2_with fail
     go_roundw
     case rel => exact ⟨k + 1, by omega, by go_num, HG.out.below x, by have h := KR.out; simp only [if_true] at h; omega⟩
     case measure => simp [intOf]; omega
    | false =>
     rw [hF] at c1 hr
     have hr : Pt.run F (bl R) = k := by rw [hr]; rfl
     have K1 := Lib.hid c1
     have KR := Lib.hid hr
     clear c1 hr hF
     go_wp2_with fail
     refine Qt.begin_ HG.out HBE.out (by kernel_rfl) (by kernel_rfl) ?_
     repeat (go_big_quiet_step (first | with_reducible exact K1.out _))
     refine wpQuiet_nil ?_
     intro _ hw'
     obtain ⟨x, hw''⟩ := hw'
     subst hw''
     have k2 : (G x).cell? ⟨g, 2, none⟩ = some (.bool m) := Qt.cell HG.out hgl (by have := KA.out.cell 2; simpa using this) x
     have hx := KX.out
     rw [KR.out] at hx
     by_cases hk1 : 1 < k
     ·have hk1' : (1 : Int) < (k : Int) := by omega
      cases m with
      | true =>
       rw [if_neg (by simp)] at hx
       have HX := Lib.hid hx
       clear hx
       go_wp2_with fail
       go_ret
       exact ⟨by rw [← HX.out]; rfl, by have := KB.out.trans ((HG.out.below x).mono hsz); rwa [KG.out] at this⟩
      | false =>
       rw [if_pos ⟨rfl, hk1⟩] at hx
       have HX := Lib.hid hx
       clear hx
       go_wp2_with fail
       go_ret
       exact ⟨by rw [← HX.out]; rfl, by have := KB.out.trans ((HG.out.below x).mono hsz); rwa [KG.out] at this⟩
     ·have hk1' : (k : Int) ≤ 1 := by omega
      rw [if_neg (fun h => hk1 h.2)] at hx
      have HX := Lib.hid hx
      clear hx k2
      go_wp2_with fail
      go_ret
      exact ⟨by rw [← HX.out]; rfl, by have := KB.out.trans ((HG.out.below x).mono hsz); rwa [KG.out] at this⟩
   ·obtain rfl : k = R.size := by omega
    have hd : Pt.run F ((bl R).drop R.size) = 0 := by
     rw [List.drop_of_length_le (by rw [bl_length]; omega)]; rfl
    rw [hd] at hr
    have hge : ¬ (R.size : Int) < (R.size : Int) := by omega
    have KR := Lib.hid hr
    clear hr hd
    go_wp2_with fail
    refine Qt.begin_ HG.out HBE.out (by kernel_rfl) (by kernel_rfl) ?_
    repeat (go_big_quiet_step (fail))
    refine wpQuiet_nil ?_
    intro _ hw'
    obtain ⟨x, hw''⟩ := hw'
    subst hw''
    have k2 : (G x).cell? ⟨g, 2, none⟩ = some (.bool m) := Qt.cell HG.out hgl (by have := KA.out.cell 2; simpa using this) x
    have hx := KX.out
    rw [KR.out] at hx
    by_cases hk1 : 1 < R.size
    ·have hk1' : (1 : Int) < (R.size : Int) := by omega
     cases m with
     | true =>
      rw [if_neg (by simp)] at hx
      have HX := Lib.hid hx
      clear hx
      go_wp2_with fail
      go_ret
      exact ⟨by rw [← HX.out]; rfl, by have := KB.out.trans ((HG.out.below x).mono hsz); rwa [KG.out] at this⟩
     | false =>
      rw [if_pos ⟨rfl, hk1⟩] at hx
      have HX := Lib.hid hx
      clear hx
      go_wp2_with fail
      go_ret
      exact ⟨by rw [← HX.out]; rfl, by have := KB.out.trans ((HG.out.below x).mono hsz); rwa [KG.out] at this⟩
    ·have hk1' : (R.size : Int) ≤ 1 := by omega
     rw [if_neg (fun h => hk1 h.2)] at hx
     have HX := Lib.hid hx
     clear hx k2
     go_wp2_with fail
     go_ret
     exact ⟨by rw [← HX.out]; rfl, by have := KB.out.trans ((HG.out.below x).mono hsz); rwa [KG.out] at this⟩
 ·have ht0 : 0 < T.size := by
   rw [← bl_length]; exact List.length_pos_iff.2 hT0
  have hti : (0 : Int) < (T.size : Int) := by omega
  have hti0 : (0 : Int) ≤ (T.size : Int) := by omega
  have hv : Pt.len (bl T) (bl S) m (bl R) = if (bl T).isPrefixOf (bl R) = true then T.size else 0 := by
   unfold Pt.len; rw [if_neg hT0, bl_length]
  rw [hv]
  clear hv hT0
  have q0 := Qt.cell HG.out hgl k0
  by_cases hle : T.size ≤ R.size
  ·have hle1 : (T.size : Int) ≤ (R.size : Int) := by omega
   have hb : ((R.extract 0 T.size).toList == T.toList) = (bl T).isPrefixOf (bl R) := by
    rw [toList_eq, toList_eq, bl_ext, Bool.eq_iff_iff, beq_iff_eq, List.isPrefixOf_iff_prefix, List.prefix_iff_eq_take, bl_length, List.drop_zero, Nat.sub_zero]
    exact eq_comm
   obtain ⟨b, hb2⟩ : ∃ b, (bl T).isPrefixOf (bl R) = b := ⟨_, rfl⟩
   rw [hb2] at hb ⊢
   clear hb2
   cases b with
   | true =>
    rw [if_pos rfl]
    go_enter Try.func18, Try.ntmps18
    go_wp2_with fail
    rw [← KW.out, ← KG.out]
    go_wp2_with fail
    refine Qt.begin_ HG.out (Below.refl _ _) (by kernel_rfl) (by kernel_rfl) ?_
    repeat (go_big_quiet_step (fail))
    refine wpQuiet_nil ?_
    intro _ hw'
    obtain ⟨x, hw''⟩ := hw'
    subst hw''
    go_wp2_with fail
    go_ret
    exact ⟨rfl, by have := KB.out.trans ((HG.out.below x).mono hsz); rwa [KG.out] at this⟩
   | false =>
    rw [if_neg (by decide)]
    go_enter Try.func18, Try.ntmps18
    go_wp2_with fail
    rw [← KW.out, ← KG.out]
    go_wp2_with fail
    refine Qt.begin_ HG.out (Below.refl _ _) (by kernel_rfl) (by kernel_rfl) ?_
    repeat (go_big_quiet_step (fail))
    refine wpQuiet_nil ?_
    intro _ hw'
    obtain ⟨x, hw''⟩ := hw'
    subst hw''
    go_wp2_with fail
    go_ret
    exact ⟨rfl, by have := KB.out.trans ((HG.out.below x).mono hsz); rwa [KG.out] at this⟩
  ·have hle1 : ¬ (T.size : Int) ≤ (R.size : Int) := by omega
   have hb : (bl T).isPrefixOf (bl R) = false := by
    rw [← Bool.not_eq_true, List.isPrefixOf_iff_prefix]
    intro hh
    have := hh.length_le
    rw [bl_length, bl_length] at this
    omega
   rw [hb, if_neg (by decide)]
   clear hb
   go_enter Try.func18, Try.ntmps18
   go_wp2_with fail
   rw [← KW.out, ← KG.out]
   go_wp2_with fail
   refine Qt.begin_ HG.out (Below.refl _ _) (by kernel_rfl) (by kernel_rfl) ?_
   repeat (go_big_quiet_step (fail))
   refine wpQuiet_nil ?_
   intro _ hw'
   obtain ⟨x, hw''⟩ := hw'
   subst hw''
   go_wp2_with fail
   go_ret
   exact ⟨rfl, by have := KB.out.trans ((HG.out.below x).mono hsz); rwa [KG.out] at this⟩
end Go.Proofs.Ytddjmhhdpfebkaa
