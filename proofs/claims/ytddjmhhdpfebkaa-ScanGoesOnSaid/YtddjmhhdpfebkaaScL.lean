import Derived.Test.YtddjmhhdpfebkaaScK
namespace Go.Proofs.Ytddjmhhdpfebkaa
set_option maxRecDepth 100000
open Go.ChangeShapes Go.WideShapes Go.ChangeAt Go.RowKit
set_option linter.unusedVariables false
set_option linter.unusedSimpArgs false
section
variable {H : Type} {enc : TypeId × Value → H} {W : World} {base : Nat} {v : Value} {d : DataW H} {p : List MemPlace}
theorem open_tok (hv : Value.okWide Try.prog W .any base 41 v) (h : DataW.Trod enc Try.prog W 0 (fun _ => true) true 41 v d p) :
  ∃ a b c : Int, v = .agg #[.int .i64 a, .int .i64 b, .int .i64 c] ∧ (-9223372036854775808 ≤ a ∧ a ≤ 9223372036854775807) ∧ (-9223372036854775808 ≤ b ∧ b ≤ 9223372036854775807) ∧ (-9223372036854775808 ≤ c ∧ c ≤ 9223372036854775807) := by
 obtain ⟨cs, rfl, hcs⟩ := okWide_struct Try.underlying41 hv
 obtain ⟨fuel, ht⟩ := h
 obtain ⟨y0, y1, y2, n, hx, hl, h0, h1, h2⟩ := Go.Deep.trod_struct3 Try.underlying41 ht
 rw [cTok] at hl
 obtain ⟨a, b, c, hcv⟩ := list3 hl
 rw [hcv] at h0 h1 h2
 have hce : cs = #[a, b, c] := by
  have : cs.toList = [a, b, c] := by simpa [Value.cells] using hcv
  exact Array.toList_inj.1 (by simpa using this)
 subst hce
 have h0 : DataW.trod enc Try.prog W 0 (fun _ => true) true n 3 (([a, b, c].drop 0).take (Try.prog.cellsOf 3)) = some y0 := h0
 have h1 : DataW.trod enc Try.prog W 0 (fun _ => true) true n 3 (([a, b, c].drop 1).take (Try.prog.cellsOf 3)) = some y1 := h1
 have h2 : DataW.trod enc Try.prog W 0 (fun _ => true) true n 3 (([a, b, c].drop 2).take (Try.prog.cellsOf 3)) = some y2 := h2
 rw [cInt] at h0 h1 h2
 obtain ⟨t0, e0, b0⟩ := int_field Try.underlying3 h0
 obtain ⟨t1, e1, b1⟩ := int_field Try.underlying3 h1
 obtain ⟨t2, e2, b2⟩ := int_field Try.underlying3 h2
 subst e0 e1 e2
 exact ⟨t0, t1, t2, rfl, b0, b1, b2⟩
end
def Sc.text (s : ByteArray) (F T : Int) : ByteArray := if F < 0 ∨ T < F ∨ (s.size : Int) < T then ⟨#[]⟩ else s.extract F.toNat T.toNat
set_option maxHeartbeats 2000000 in
theorem text_any (s : ByteArray) (X F T : Int) (w : World) :
  Calls Try.prog 19 #[.string s, .agg #[.int .i64 X, .int .i64 F, .int .i64 T]] w fun e w' => e = .returned (.string (Sc.text s F T)) ∧ Below w.heap.size w w' := by
 have HB := Lib.hid ((Below.refl w.heap.size w).alloc (Nat.le_refl _) (.cells #[.int .i64 X, .int .i64 F, .int .i64 T] 41))
 unfold Sc.text
 by_cases h1 : F < 0
 ·rw [if_pos (.inl h1)]
  go_enter Try.func19, Try.ntmps19
  go_wp2_with fail
  go_ret
  exact ⟨rfl, HB.out⟩
 by_cases h2 : T < F
 ·rw [if_pos (.inr (.inl h2))]
  go_enter Try.func19, Try.ntmps19
  go_wp2_with fail
  go_ret
  exact ⟨rfl, HB.out⟩
 by_cases h3 : (s.size : Int) < T
 ·rw [if_pos (.inr (.inr h3))]
  go_enter Try.func19, Try.ntmps19
  go_wp2_with fail
  go_ret
  exact ⟨rfl, HB.out⟩
 rw [if_neg (by omega)]
 obtain ⟨f, rfl⟩ : ∃ f : Nat, F = f := ⟨F.toNat, by omega⟩
 obtain ⟨t, rfl⟩ : ∃ f : Nat, T = f := ⟨T.toNat, by omega⟩
 have q1 : (0 : Int) ≤ (f : Int) := by omega
 have q2 : (f : Int) ≤ (t : Int) := by omega
 have q3 : (t : Int) ≤ (s.size : Int) := by omega
 go_enter Try.func19, Try.ntmps19
 go_wp2_with fail
 go_ret
 exact ⟨rfl, HB.out⟩
set_option maxHeartbeats 4000000 in
theorem texts17_law (s : ByteArray) (hs : s.size ≤ 9223372036854775807) (X F T : Int) (hX : -9223372036854775808 ≤ X ∧ X ≤ 9223372036854775807) (hF : -9223372036854775808 ≤ F ∧ F ≤ 9223372036854775807) (hT : -9223372036854775808 ≤ T ∧ T ≤ 9223372036854775807) (w : World) :
  Calls Try.prog 7 #[.string s, .agg #[.int .i64 X, .int .i64 F, .int .i64 T]] w fun e w' => e = .returned (.bool true) ∧ Below w.heap.size w w' := by
 have hb := (Below.refl w.heap.size w).alloc (Nat.le_refl _) (.cells #[.int .i64 X, .int .i64 F, .int .i64 T] 41)
 have hat := At.new w 41 #[.int .i64 X, .int .i64 F, .int .i64 T]
 obtain ⟨W, hW⟩ : ∃ W, w.alloc (.cells #[.int .i64 X, .int .i64 F, .int .i64 T] 41) = W := ⟨_, rfl⟩
 rw [hW] at hat hb
 obtain ⟨q, hq⟩ : ∃ q, q = w.heap.size := ⟨_, rfl⟩
 rw [← hq] at hat hb
 have HAW := Lib.hid (awake_any W)
 have HT := Lib.hid (fun w => text_any s X F T w)
 have HW := Lib.hid hW
 have HQ := Lib.hid hq
 have HB := Lib.hid hb
 have HAT := Lib.hid hat
 have hqW := hat.lt
 clear hb hat hW hq
 go_enter Try.func7, Try.ntmps7
 go_wp2_with fail
 rw [HW.out, ← HQ.out]
 go_wp2_with fail
 refine HAW.out.mono ?_
 rintro e w1 ⟨rfl, hb1⟩
 have hat1 := HAT.out.below hb1 hqW
 have x0 := hat1.cell 0
 have x1 := hat1.cell 1
 have x2 := hat1.cell 2
 simp only [List.getElem?_toArray, List.getElem?_cons_zero, List.getElem?_cons_succ] at x0 x1 x2
 have HB1 := Lib.hid (HB.out.trans (hb1.mono (by omega)))
 have HAT1 := Lib.hid hat1
 have hq1 := hat1.lt
 clear hb1 hat1 HAT HB HAW
 by_cases h100 : (100 : Int) < (s.size : Int)
 ·go_wp2_with fail
  go_ret
  exact ⟨rfl, by rw [← HQ.out]; exact HB1.out⟩
 go_wp2_with fail
 refine (HT.out _).mono ?_
 rintro e w2 ⟨rfl, hb2⟩
 have hat2 := HAT1.out.below hb2 hq1
 have x0 := hat2.cell 0
 have x1 := hat2.cell 1
 have x2 := hat2.cell 2
 simp only [List.getElem?_toArray, List.getElem?_cons_zero, List.getElem?_cons_succ] at x0 x1 x2
 have HB2 := Lib.hid (HB1.out.trans (hb2.mono (by omega)))
 clear hb2 hat2 HAT1 HB1 HT
 by_cases h1 : F < 0
 ·have he : Sc.text s F T = ⟨#[]⟩ := if_pos (.inl h1)
  rw [he]
  clear he
  go_wp2_with fail
  go_ret
  exact ⟨rfl, by rw [← HQ.out]; exact HB2.out⟩
 by_cases h2 : T < F
 ·have he : Sc.text s F T = ⟨#[]⟩ := if_pos (.inr (.inl h2))
  rw [he]
  clear he
  go_wp2_with fail
  go_ret
  exact ⟨rfl, by rw [← HQ.out]; exact HB2.out⟩
 by_cases h3 : (s.size : Int) < T
 ·have he : Sc.text s F T = ⟨#[]⟩ := if_pos (.inr (.inr h3))
  rw [he]
  clear he
  go_wp2_with fail
  go_ret
  exact ⟨rfl, by rw [← HQ.out]; exact HB2.out⟩
 obtain ⟨f, rfl⟩ : ∃ f : Nat, F = f := ⟨F.toNat, by omega⟩
 obtain ⟨t, rfl⟩ : ∃ f : Nat, T = f := ⟨T.toNat, by omega⟩
 have he : Sc.text s (f : Int) (t : Int) = s.extract f t := by unfold Sc.text; rw [if_neg (by omega)]; rfl
 rw [he]
 obtain ⟨R, hR⟩ : ∃ R, s.extract f t = R := ⟨_, rfl⟩
 rw [hR]
 have hRs : R.size = t - f := by rw [← hR, ByteArray.size_extract]; omega
 have hRb : ∀ (i : Nat) (h : i < R.size) (J : Nat) (hJ : f + i = J) (h2 : J < s.size), R[i] = s[J] := fun i h J hJ h2 => by
  subst hR hJ
  rw [ByteArray.getElem_extract]
 have HRB := Lib.hid hRb
 have hw1 : IntKind.i64.wrap ((t : Int) - (f : Int)) = (R.size : Int) := by rw [hRs]; rw [IntWalk.i64_in _ (by omega)]; omega
 have HRS := Lib.hid hRs
 have q1 : f ≤ t := by omega
 have q2 : t ≤ s.size := by omega
 clear he hR hRb hRs
 go_wp2_with fail
 go_loopw [7] (fun i wr => ∃ (k : Nat), k ≤ R.size ∧ i = .int .i64 (k : Int) ∧ ∃ m, wr = w2.drewN m) (fun i _ => R.size - (intOf i).toNat)
 case atStart => exact ⟨0, by omega, rfl, 0, rfl⟩
 case round =>
  obtain ⟨k, hk, rfl, m, rfl⟩ := hrel
  by_cases hlt : k < R.size
  ·have hrs := HRS.out
   have hr100 : R.size ≤ 100 := by omega
   have hki : (k : Int) < (R.size : Int) := by omega
   have hk0 : (0 : Int) ≤ (k : Int) := by omega
   obtain ⟨J, hJ⟩ : ∃ J, f + k = J := ⟨_, rfl⟩
   have hw2 : IntKind.i64.wrap ((f : Int) + (k : Int)) = (J : Int) := by rw [← hJ, Int.natCast_add]; exact IntWalk.i64_in _ (by omega)
   have hfk : J < s.size := by omega
   have hfk1 : (J : Int) < (s.size : Int) := by omega
   have hfk0 : (0 : Int) ≤ (J : Int) := by omega
   have hx := HRB.out k hlt J hJ hfk
   have hne : ((s[J].toNat : Int) != (s[J].toNat : Int)) = false := by simp
   clear hrs hJ
   go_wp2_with fail
   go_quiet (fail)
   go_wp2_with fail
   go_roundw
   case rel => exact ⟨k + 1, hlt, by go_num, _, rfl⟩
   case measure => simp [intOf]; omega
  ·obtain rfl : k = R.size := by omega
   clear hlt
   go_wp2_with fail
   go_ret
   exact ⟨rfl, by rw [← HQ.out]; exact below_drewN HB2.out _⟩
end Go.Proofs.Ytddjmhhdpfebkaa
