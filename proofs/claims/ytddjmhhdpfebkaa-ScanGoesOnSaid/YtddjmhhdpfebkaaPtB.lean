import Derived.Test.YtddjmhhdpfebkaaPtA
namespace Go.Proofs.Ytddjmhhdpfebkaa
set_option maxRecDepth 100000
open Go.RowKit
set_option linter.unusedVariables false
set_option linter.unusedSimpArgs false
def patV (T S : ByteArray) (m : Bool) : Value := .agg #[.string T, .string S, .bool m]
theorem empty_yes {T : ByteArray} (h : bl T = []) : T.toList.isEmpty = true ∧ (T.toList == (⟨#[]⟩ : ByteArray).toList) = true := by
 rw [toList_eq, toList_eq, h]; exact ⟨rfl, rfl⟩
theorem empty_no {T : ByteArray} (h : bl T ≠ []) : T.toList.isEmpty = false ∧ (T.toList == (⟨#[]⟩ : ByteArray).toList) = false := by
 rw [toList_eq, toList_eq]
 cases hb : bl T with
 | nil => exact absurd hb h
 | cons a r => exact ⟨rfl, rfl⟩
theorem Pt.lenAt_low {T S s : List UInt8} {m : Bool} {a : Int} (h : a < 0) : Pt.lenAt T S m s a = 0 := if_pos (.inl h)
theorem Pt.lenAt_high {T S s : List UInt8} {m : Bool} {a : Int} (h : (s.length : Int) ≤ a) : Pt.lenAt T S m s a = 0 := if_pos (.inr h)
theorem Pt.lenAt_in {T S s : List UInt8} {m : Bool} {n : Nat} (h : n < s.length) : Pt.lenAt T S m s (n : Int) = Pt.len T S m (s.drop n) := by
 unfold Pt.lenAt
 rw [if_neg (by omega)]; rfl
theorem Pt.len_le {T S s : List UInt8} {m : Bool} : Pt.len T S m s ≤ s.length := by
 unfold Pt.len
 split
 ·split
  ·exact Pt.run_le _ _
  ·exact Nat.le_trans (Pt.run_le _ _) (by rw [List.length_take]; omega)
 ·split
  ·rename_i h; exact (List.isPrefixOf_iff_prefix.1 h).length_le
  ·omega
theorem Pt.lenAt_le {T S s : List UInt8} {m : Bool} {a : Int} : Pt.lenAt T S m s a ≤ s.length := by
 unfold Pt.lenAt
 split
 ·omega
 ·exact Nat.le_trans Pt.len_le (by rw [List.length_drop]; omega)
set_option maxHeartbeats 2000000 in
theorem len_any (T S : ByteArray) (m : Bool) (s : ByteArray) (a : Int) (w : World) (hT : T.size ≤ 9223372036854775807) (hS : S.size ≤ 9223372036854775807) (hs : s.size ≤ 9223372036854775807) :
  Calls Try.prog 26 #[patV T S m, .string s, .int .i64 a] w fun e w' => e = .returned (.int .i64 (Pt.lenAt (bl T) (bl S) m (bl s) a : Int)) ∧ Below w.heap.size w w' := by
 have KA := Lib.hid (At.new w 48 #[.string T, .string S, .bool m])
 have KB := Lib.hid ((Below.refl w.heap.size w).alloc (Nat.le_refl _) (.cells #[.string T, .string S, .bool m] 48))
 have hsz : w.heap.size ≤ (w.alloc (.cells #[.string T, .string S, .bool m] 48)).heap.size := by simp
 obtain ⟨W, hW⟩ : ∃ W, W = w.alloc (.cells #[.string T, .string S, .bool m] 48) := ⟨_, rfl⟩
 rw [← hW] at KA KB hsz
 have KW := Lib.hid hW
 unfold patV
 by_cases h0 : a < 0
 ·rw [Pt.lenAt_low h0]
  clear hW hsz
  go_enter Try.func26, Try.ntmps26
  go_wp2_with fail
  go_ret
  exact ⟨rfl, by have := KB.out; rwa [KW.out] at this⟩
 obtain ⟨n, rfl⟩ : ∃ n : Nat, a = n := ⟨a.toNat, by omega⟩
 by_cases h1 : s.size ≤ n
 ·have h1' : (s.size : Int) ≤ (n : Int) := by omega
  rw [Pt.lenAt_high (by rw [bl_length]; exact h1')]
  clear hW hsz
  go_enter Try.func26, Try.ntmps26
  go_wp2_with fail
  go_ret
  exact ⟨rfl, by have := KB.out; rwa [KW.out] at this⟩
 have h2 : n < s.size := by omega
 have h2' : (n : Int) < (s.size : Int) := by omega
 have h3 : (n : Int) ≤ (s.size : Int) := by omega
 have h4 : ¬ (s.size : Int) ≤ (n : Int) := by omega
 rw [Pt.lenAt_in (by rw [bl_length]; exact h2)]
 have hR := bl_end s n
 have hRs : (s.extract n s.size).size = s.size - n := by rw [ByteArray.size_extract]; omega
 rw [← hR]
 obtain ⟨R, hRe⟩ : ∃ R, s.extract n s.size = R := ⟨_, rfl⟩
 rw [hRe]
 rw [hRe] at hRs
 have hR1 : (1 : Int) ≤ (R.size : Int) := by omega
 have hRl : R.size ≤ 9223372036854775807 := by omega
 clear hR hRs
 obtain ⟨g, hg⟩ : ∃ g, g = w.heap.size := ⟨_, rfl⟩
 have KG := Lib.hid hg
 rw [← hg] at KA KB hsz
 have k0 := KA.out.cell 0
 have k1 := KA.out.cell 1
 have k2 := KA.out.cell 2
 simp only [List.getElem?_toArray, List.getElem?_cons_zero, List.getElem?_cons_succ] at k0 k1 k2
 have f0 := KA.out.frozen
 clear hW hg
 by_cases hT0 : bl T = []
 ·obtain ⟨z1, z2⟩ := empty_yes hT0
  have KT := Lib.hid hT0
  clear hT0
  cases m with
  | true =>
   go_enter Try.func26, Try.ntmps26
   go_wp2_with fail
   rw [← KW.out, ← KG.out]
   go_wp2_with fail
   refine (of_any S W hS).mono ?_
   rintro e w1 ⟨rfl, hb1⟩
   have KB1 := Lib.hid (KB.out.trans (hb1.mono hsz))
   have hs1 := KB1.out.size
   rw [← KG.out] at hs1
   clear hb1 k0 k1 k2 f0
   go_wp2_with fail
   refine (run_any _ R w1 hRl).mono ?_
   rintro e w2 ⟨rfl, hb2⟩
   go_wp2_with fail
   go_ret
   refine ⟨?_, ?_⟩
   ·unfold Pt.len
    rw [if_pos KT.out, if_pos rfl]; rfl
   ·have := KB1.out.trans (hb2.mono hs1)
    rwa [KG.out] at this
  | false =>
   have h01 : (0 : Int) ≤ 1 := by omega
   have hQ : bl (R.extract 0 1) = (bl R).take 1 := by rw [bl_ext]; rfl
   have hQs : (R.extract 0 1).size ≤ 9223372036854775807 := by rw [ByteArray.size_extract]; omega
   obtain ⟨Q, hQe⟩ : ∃ Q, R.extract 0 1 = Q := ⟨_, rfl⟩
   rw [hQe] at hQ hQs
   have KQ := Lib.hid hQ
   clear hQ
   go_enter Try.func26, Try.ntmps26
   go_wp2_with fail
   rw [← KW.out, ← KG.out]
   go_wp2_with fail
   refine (of_any S W hS).mono ?_
   rintro e w1 ⟨rfl, hb1⟩
   have KB1 := Lib.hid (KB.out.trans (hb1.mono hsz))
   have hs1 := KB1.out.size
   rw [← KG.out] at hs1
   clear hb1 k0 k1 k2 f0
   go_wp2_with fail
   refine (run_any _ Q w1 hQs).mono ?_
   rintro e w2 ⟨rfl, hb2⟩
   go_wp2_with fail
   go_ret
   refine ⟨?_, ?_⟩
   ·unfold Pt.len
    rw [if_pos KT.out, if_neg (by decide), ← KQ.out]; rfl
   ·have := KB1.out.trans (hb2.mono hs1)
    rwa [KG.out] at this
 ·obtain ⟨z1, z2⟩ := empty_no hT0
  have KT := Lib.hid hT0
  clear hT0
  obtain ⟨b, hb⟩ : ∃ b, (bl T).isPrefixOf (bl R) = b := ⟨_, rfl⟩
  have KP := Lib.hid hb
  clear hb
  go_enter Try.func26, Try.ntmps26
  go_wp2_with fail
  rw [← KW.out, ← KG.out]
  go_wp2_with fail
  refine (prefix_any R T W hRl hT).mono ?_
  rw [KP.out]
  rintro e w1 ⟨rfl, rfl⟩
  cases b with
  | true =>
   go_wp2_with fail
   go_ret
   refine ⟨?_, ?_⟩
   ·unfold Pt.len
    rw [if_neg KT.out, if_pos KP.out, bl_length]; rfl
   ·have := KB.out
    rwa [KG.out] at this
  | false =>
   go_wp2_with fail
   go_ret
   refine ⟨?_, ?_⟩
   ·unfold Pt.len
    rw [if_neg KT.out, KP.out]; rfl
   ·have := KB.out
    rwa [KG.out] at this
theorem Pt.lenAt_zero {T S s : List UInt8} {m : Bool} (h : s ≠ []) : Pt.lenAt T S m s 0 = Pt.len T S m s := by
 have := Pt.lenAt_in (T := T) (S := S) (m := m) (List.length_pos_iff.2 h)
 simpa using this
end Go.Proofs.Ytddjmhhdpfebkaa
