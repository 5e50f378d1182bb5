import Derived.Test.YtjcijffhcmbhnaaDoorTbD
namespace Go.Proofs.YtjcijffhcmbhnaaDoor
set_option maxRecDepth 100000
open Go.RowKit
open BitKit
set_option linter.unusedVariables false
set_option linter.unusedSimpArgs false
namespace Tb
def Met (L : List Nat) (C : List Nat) (p : Nat) : Prop := ∃ c ∈ C, bit L (p + c) = true
structure MetW (L C : List Nat) (f m x : Nat) : Prop where
 lt : x < 18446744073709551616
 bits : ∀ j, j < 64 → (x.testBit j = true ↔ Met L (C.take m) (f + j))
theorem MetW.zero (L C : List Nat) (f : Nat) : MetW L C f 0 0 := ⟨by decide, fun j _ => by simp [Met]⟩
theorem MetW.next {L C : List Nat} {f m x c : Nat} (h : MetW L C f m x) (hc : C[m]? = some c) (hL : ∀ x ∈ L, x < 18446744073709551616) : MetW L C f (m + 1) (x ||| from_ L (f + c)) := by
 refine ⟨Nat.or_lt_two_pow (n := 64) h.lt (from_lt hL _), fun j hj => ?_⟩
 rw [Nat.testBit_or, from_bit hL _ _ hj, Bool.or_eq_true, h.bits j hj, take_snoc hc]
 unfold Met
 have e : f + c + j = f + j + c := by omega
 rw [e]
 constructor
 ·rintro (⟨d, hd, h1⟩ | h1)
  ·exact ⟨d, by simp [hd], h1⟩
  ·exact ⟨c, by simp, h1⟩
 ·rintro ⟨d, hd, h1⟩
  rcases List.mem_append.1 hd with h2 | h2
  ·exact .inl ⟨d, h2, h1⟩
  ·simp at h2; subst h2; exact .inr h1
theorem testBit_full {j : Nat} (hj : j < 64) : (18446744073709551615 : Nat).testBit j = true := by
 have := Nat.testBit_two_pow_sub_one 64 j
 rw [show (2 : Nat) ^ 64 - 1 = 18446744073709551615 by decide] at this
 rw [this]; simp [hj]
theorem MetW.full {L C : List Nat} {f m x : Nat} (h : MetW L C f m x) (hx : x = 18446744073709551615) (hm : m ≤ C.length) : ∀ q, f ≤ q → q < f + 64 → Met L C q := by
 subst hx
 intro q h1 h2
 obtain ⟨d, hd, h3⟩ := (h.bits (q - f) (by omega)).1 (testBit_full (by omega))
 exact ⟨d, List.mem_of_mem_take hd, by rwa [show f + (q - f) = q by omega] at h3⟩
theorem xor_bit {x : Nat} (hx : x < 18446744073709551616) (j : Nat) (hj : j < 64) : (18446744073709551615 - x).testBit j = !x.testBit j := by
 have h1 := Nat.testBit_two_pow_sub_succ (n := 64) (x := x) hx j
 rw [show (2 : Nat) ^ 64 - (x + 1) = 18446744073709551615 - x by omega] at h1
 rw [h1]; simp [hj]
theorem MetW.free {L C : List Nat} {f x : Nat} (h : MetW L C f C.length x) (hx : x ≠ 18446744073709551615) :
  Lib.ctz 64 (18446744073709551615 - x) < 64 ∧ ¬ Met L C (f + Lib.ctz 64 (18446744073709551615 - x)) ∧ ∀ q, f ≤ q → q < f + Lib.ctz 64 (18446744073709551615 - x) → Met L C q := by
 have hlt := h.lt
 obtain ⟨h1, h2, h3, _⟩ := ctz_spec (x := 18446744073709551615 - x) (by omega) (by omega)
 generalize Lib.ctz 64 (18446744073709551615 - x) = k at *
 have hb := h.bits
 rw [List.take_length] at hb
 refine ⟨h1, fun hm => ?_, fun q hq hk => ?_⟩
 ·have := (hb k h1).2 hm
  rw [xor_bit hlt k h1, this] at h2; cases h2
 ·have h4 := h3 (q - f) (by omega)
  rw [xor_bit hlt _ (by omega)] at h4
  have := (hb (q - f) (by omega)).1 (by simpa using h4)
  rwa [show f + (q - f) = q by omega] at this
theorem xor_max (x : Nat) (hx : x < 18446744073709551616) : bits .xor .u64 IntKind.u64.max (x : Int) = ((18446744073709551615 - x : Nat) : Int) := by
 have e : IntKind.u64.max = ((18446744073709551615 : Nat) : Int) := rfl
 rw [e, u64_xor_nat _ _ (by decide) hx]
 congr 1
 apply Nat.eq_of_testBit_eq
 intro j
 rw [Nat.testBit_xor]
 by_cases hj : j < 64
 ·rw [xor_bit hx j hj, testBit_full hj]; simp
 ·have h1 : ∀ y, y < 2 ^ 64 → y.testBit j = false := fun y hy => Nat.testBit_lt_two_pow (Nat.lt_of_lt_of_le hy (Nat.pow_le_pow_right (by decide) (by omega)))
  rw [h1 _ (by decide), h1 x hx, h1 _ (by omega)]
  rfl
theorem not_met_far (L C : List Nat) : ¬ Met L C (64 * L.length) := by
 rintro ⟨c, _, h⟩
 rw [bit_out (by omega)] at h; cases h
structure Spot (L C : List Nat) (p : Nat) : Prop where
 free : ¬ Met L C p
 least : ∀ q, q < p → Met L C q
def AllMet (L C : List Nat) (n : Nat) : Prop := ∀ q, q < n → Met L C q
theorem AllMet.le {L C : List Nat} {k : Nat} (h : AllMet L C (64 * k)) : k ≤ L.length := by
 by_cases h1 : k ≤ L.length
 ·exact h1
 ·exact absurd (h (64 * L.length) (by omega)) (not_met_far L C)
end Tb
theorem from_sum (B : Nat) (v : Value) (L : List Nat) (F c : Nat) (hF : F + c ≤ 50000) (w : World) (h : OwnW w B v L) :
  Calls Tryd.prog 30 #[v, .int .i64 ((F : Int) + (c : Int))] w fun e w' => e = .returned (.int .u64 ((Tb.from_ L (F + c) : Nat) : Int)) ∧ ∃ k, w' = w.drewN k := by
 have := from_any B v L (F + c) hF w h
 rwa [Int.natCast_add] at this
set_option maxHeartbeats 2000000 in
theorem place_any (B B' : Nat) (v vc : Value) (L C : List Nat) (w : World) (h : OwnW w B v L) (hC : OwnI w B' vc (ints C)) (hc : ∀ c ∈ C, c ≤ 1000) (hCl : C.length ≤ 1000) (hLl : L.length ≤ 500) (hT : Tab w) :
  Calls Tryd.prog 24 #[v, vc] w fun e w' => (∃ p : Nat, e = .returned (.int .i64 (p : Int)) ∧ Tb.Spot L C p) ∧ ∃ k, w' = w.drewN k := by
 obtain ⟨a, ca, rfl⟩ := h.shape
 obtain ⟨b, cb, rfl⟩ := hC.shape
 have hil := ints_length C
 have K := Lib.hid h
 have KC := Lib.hid hC
 have Kc := Lib.hid hc
 have KT := Lib.hid hT
 clear h hC hc hT
 rw [hil] at KC ⊢
 clear hil
 go_enter Tryd.func24, Tryd.ntmps24
 go_wp2_with fail
 go_step3
 go_wp2_with fail
 go_step3
 go_wp2_with fail
 go_loopg [5, 6, 8] L.length (fun q t5 t6 t8 wr => ∃ k F : Nat, t5 = .int .i64 (F : Int) ∧ F = 64 * k ∧ k ≤ L.length ∧ q = L.length - k ∧ Tb.AllMet L C F ∧ ∃ j, wr = w.drewN j)
 case atStart => exact ⟨0, 0, rfl, rfl, by omega, by omega, (fun q hq => by omega), 0, rfl⟩
 case round =>
  obtain ⟨k, F, rfl, hF, hk, hq, hall, j, hwr⟩ := hrel
  have Kall := Lib.hid hall
  have Kq := Lib.hid hq
  have Kwr := Lib.hid hwr
  have KF := Lib.hid hF
  have hF2 : F ≤ 32000 := by omega
  clear hall hq hwr hF
  go_wp2_with fail
  go_loopg [6, 8, 13] C.length (fun q t6 t8 t13 wz => ∃ m x : Nat, t6 = .int .u64 (x : Int) ∧ t13 = .int .i64 (m : Int) ∧ m ≤ C.length ∧ q = C.length - m ∧ Tb.MetW L C F m x ∧ (m = 0 ∨ x ≠ 18446744073709551615) ∧ ∃ j, wz = w.drewN j)
  case atStart => exact ⟨0, 0, rfl, rfl, by omega, by omega, Tb.MetW.zero L C F, .inl rfl, _, Kwr.out⟩
  case round =>
   obtain ⟨m, x, rfl, rfl, hm, hq2, hM, hnf, j2, hwz⟩ := hrel
   have KM := Lib.hid hM
   have Kq2 := Lib.hid hq2
   have Kwz := Lib.hid hwz
   have Knf := Lib.hid hnf
   clear hM hq2 hwz hnf
   by_cases hlt : m < C.length
   ·obtain ⟨c, hcm⟩ : ∃ c, C[m]? = some c := ⟨_, List.getElem?_eq_getElem hlt⟩
    have hc1 := Kc.out c (List.mem_of_getElem? hcm)
    have hCr : OwnI wr B' (.slice b C.length cb) (ints C) := by rw [Kwz.out]; exact KC.out.drewN _
    have hLr : OwnW wr B (.slice a L.length ca) L := by rw [Kwz.out]; exact K.out.drewN _
    have KLr := Lib.hid hLr
    unfold OwnI at hCr
    rw [ints_length] at hCr
    obtain ⟨g, cg, he, _⟩ := own_pos hCr (by omega)
    simp only [Value.slice.injEq, true_and] at he
    obtain ⟨rfl, rfl⟩ := he
    have c0 := hCr.cellAt m (by omega)
    rw [vals_get (ints_get hcm)] at c0
    have q1 : (0 : Int) ≤ (m : Int) := by omega
    have q2 : (m : Int) < (C.length : Int) := by omega
    have q3 : ((m : Int)).toNat = m := by omega
    have q4 : (0 : Int) ≤ (F : Int) := by omega
    have q5 : (0 : Int) ≤ (c : Int) := by omega
    have q6 : (F : Int) ≤ 32000 := by omega
    have q7 : (c : Int) ≤ 1000 := by omega
    have KM2 := Lib.hid (KM.out.next hcm K.out.lt)
    have Kor := Lib.hid (u64_or_nat x (Tb.from_ L (F + c)) KM.out.lt (Tb.from_lt K.out.lt _))
    generalize hX : x ||| Tb.from_ L (F + c) = X at KM2 Kor
    have KX := Lib.hid hX
    clear hCr hLr hcm hc1 hX
    go_wp2_with fail
    refine (from_sum B _ L F c (by omega) _ KLr.out).mono ?_
    rintro e w2 ⟨rfl, j3, hw2⟩
    have Kw2 := Lib.hid hw2
    clear hw2
    generalize hY : (Tb.from_ L (F + c) : Int) = Y at Kor
    have KY := Lib.hid hY
    clear hY
    cases hb : (bits .or .u64 (x : Int) Y == 18446744073709551615)
    ·have Kb := Lib.hid hb
     go_wp2_with fail
     go_roundg (C.length - (m + 1))
     case measure => have := Kq2.out; omega
     case rel =>
      have hX : (bits .or .u64 (x : Int) Y) = (X : Int) := Kor.out
      have hb := Kb.out
      refine ⟨m + 1, X, by rw [hX], by go_num, by omega, rfl, KM2.out, .inr ?_, _, by rw [Kw2.out, Kwz.out]; exact World.drewN_drewN ..⟩
      intro e
      rw [hX, e] at hb
      simp at hb
    ·have hX : (bits .or .u64 (x : Int) Y) = (X : Int) := Kor.out
     have Kb := Lib.hid hb
     have hXf : X = 18446744073709551615 := by
      rw [hX] at hb
      have h1 : (X : Int) = 18446744073709551615 := by simpa using hb
      omega
     have hall : Tb.AllMet L C (F + 64) := fun q hq => by
      by_cases h1 : q < F
      ·exact Kall.out q h1
      ·exact KM2.out.full hXf (by omega) q (by omega) hq
     have hF := KF.out
     have hle := (show Tb.AllMet L C (64 * (k + 1)) by rw [show 64 * (k + 1) = F + 64 by omega]; exact hall).le
     have Kall2 := Lib.hid hall
     clear hall hXf hX hF
     go_wp2_with fail
     go_roundg (L.length - (k + 1))
     case measure => have := Kq.out; omega
     case rel => exact ⟨k + 1, F + 64, by go_num, by have := KF.out; omega, by omega, rfl, Kall2.out, _, by rw [Kw2.out, Kwz.out]; exact World.drewN_drewN ..⟩
   ·obtain rfl : m = C.length := by omega
    have hx : x ≠ 18446744073709551615 := by
     rcases Knf.out with h0 | h0
     ·intro e
      have h1 := (KM.out.bits 0 (by omega)).1 (by rw [e]; exact Tb.testBit_full (by omega))
      rw [h0] at h1
      simp [Tb.Met] at h1
     ·exact h0
    have hlt64 := KM.out.lt
    obtain ⟨hk1, hk2, hk3⟩ := KM.out.free hx
    have htz := tz_any (18446744073709551615 - x) (by omega) (by omega) wr (by rw [Kwz.out]; exact fun j hj => KT.out j hj)
    rw [← Tb.xor_max x hlt64] at htz
    have Ktz := Lib.hid htz
    generalize Lib.ctz 64 (18446744073709551615 - x) = t at hk1 hk2 hk3 Ktz
    have Ks := Lib.hid (show Tb.Spot L C (F + t) from ⟨hk2, fun q hq => by
     by_cases h1 : q < F
     ·exact Kall.out q h1
     ·exact hk3 q (by omega) hq⟩)
    clear htz hk2 hk3 hx hlt64
    go_wp2_with fail
    refine Ktz.out.mono ?_
    rintro e w2 ⟨rfl, rfl⟩
    go_wp2_with fail
    try rw [Exit.noGoto_ret]
    go_ret
    exact ⟨⟨F + t, by rw [Int.natCast_add]; rfl, Ks.out⟩, _, Kwz.out⟩
theorem own_empty (w : World) (base : Nat) (e : TypeId) (hb : base ≤ w.heap.size) : (w.alloc (.cells #[] e)).ownsRow base e 1 (.slice (some ⟨w.heap.size, 0, none⟩) 0 0) 0 [] :=
 ⟨rfl, .inr ⟨w.heap.size, 0, #[], rfl, hb, heap_alloc_new w _, by omega, by unfold maxLen; omega, by simp, by simp⟩⟩
theorem Nums.lies {w : World} {B : Nat} {A : Option Addr} {l : List Int} (h : Nums w B A l.length (fun i => l.getD i 0)) : Lies w A (vals l) := by
 intro j u hj
 have hlt : j < l.length := by have := (List.getElem?_eq_some_iff.1 hj).1; rwa [vals_length] at this
 obtain ⟨b, o, rfl, _, hc⟩ := h.each j hlt
 have hv : (vals l)[j]? = some (.int .i64 (l.getD j 0)) := vals_get (by simp [List.getD, hlt])
 rw [hv] at hj
 injection hj with hj
 exact ⟨_, rfl, by rw [Go.WideShapes.add_plain, ← hj]; exact hc⟩
theorem Nums.alloc {w : World} {B : Nat} {A : Option Addr} {n : Nat} {X : Nat → Int} (h : Nums w B A n X) (hB : B ≤ w.heap.size) (o : Obj) : Nums (w.alloc o) B A n X := h.below ((Below.refl B w).alloc hB o)
theorem RowIn.alloc {w : World} {B : Nat} {v : Value} {l : List Int} (h : RowIn w B v l) (hB : B ≤ w.heap.size) (o : Obj) : RowIn (w.alloc o) B v l := h.below ((Below.refl B w).alloc hB o)
theorem row_lies {w : World} {B n c : Nat} {A : Option Addr} {l : List Int} (h : RowIn w B (.slice A n c) l) (hn : l.length = n) : Lies w A (vals l) := by
 subst hn
 exact h.nums.lies
def EndTo (l : List Int) (k n : Nat) : Prop := n ≤ k ∧ (∀ i, n ≤ i → i < k → l.getD i 0 = 0) ∧ (0 < n → l.getD (n - 1) 0 ≠ 0)
set_option maxHeartbeats 1000000 in
theorem trim_any (A : Option Addr) (c B : Nat) (l : List Int) (w : World) (h : RowIn w B (.slice A l.length c) l) (hB : B ≤ w.heap.size) (hl : l.length ≤ 60000) :
  Calls Tryd.prog 18 #[.slice A l.length c] w fun e w' => ∃ v, e = .returned v ∧ OwnI w' w.heap.size v (Tb.trim l) ∧ Below w.heap.size w w' := by
 obtain ⟨i0, hi, hz0, hz1, hz2⟩ := info_parts Tryd.infoInt
 have K := Lib.hid h
 have KN := Lib.hid h.nums
 have hcap := h.cap
 clear h
 go_enter Tryd.func18, Tryd.ntmps18
 go_wp2_with fail
 go_loopg [3, 4] l.length (fun q t3 t4 wr => ∃ n k : Nat, t3 = .int .i64 (n : Int) ∧ t4 = .int .i64 (k : Int) ∧ k ≤ l.length ∧ q = l.length - k ∧ EndTo l k n ∧ wr = w)
 case atStart => exact ⟨0, 0, rfl, rfl, by omega, by omega, ⟨by omega, fun i h1 h2 => by omega, fun h => by omega⟩, rfl⟩
 case round =>
  obtain ⟨n, k, rfl, rfl, hk, hq, hE, rfl⟩ := hrel
  have KE := Lib.hid hE
  have Kq := Lib.hid hq
  clear hE hq
  by_cases hlt : k < l.length
  ·obtain ⟨x, hx⟩ : ∃ x, l[k]? = some x := ⟨_, List.getElem?_eq_getElem hlt⟩
   have hxd : l.getD k 0 = x := by rw [List.getD, hx]; rfl
   obtain ⟨b, o, rfl, hbB, c0⟩ := KN.out.each k hlt
   rw [hxd] at c0
   have Kx := Lib.hid hxd
   have q1 : (0 : Int) ≤ (k : Int) := by omega
   have q2 : (k : Int) < (l.length : Int) := by omega
   have q3 : ((k : Int)).toNat = k := by omega
   clear hx hxd
   cases hb : (x != 0)
   ·have Kb := Lib.hid hb
    go_wp2_with fail
    go_roundg (l.length - (k + 1))
    case measure => have := Kq.out; omega
    case rel =>
     refine ⟨n, k + 1, rfl, by go_num, by omega, rfl, ⟨by have := KE.out.1; omega, fun i h1 h2 => ?_, KE.out.2.2⟩, rfl⟩
     by_cases he : i = k
     ·subst he; rw [Kx.out]; have := Kb.out; simpa using this
     ·exact KE.out.2.1 i h1 (by omega)
   ·have Kb := Lib.hid hb
    go_wp2_with fail
    go_roundg (l.length - (k + 1))
    case measure => have := Kq.out; omega
    case rel =>
     refine ⟨k + 1, k + 1, by go_num, by go_num, by omega, rfl, ⟨by omega, fun i h1 h2 => by omega, fun _ => ?_⟩, rfl⟩
     rw [Nat.add_sub_cancel, Kx.out]; have := Kb.out; simpa using this
  ·obtain rfl : k = l.length := by omega
   have he : Tb.Ends l n := ⟨KE.out.1, fun i hi => by
    by_cases h1 : i < l.length
    ·exact KE.out.2.1 i hi h1
    ·exact Tb.getD_out (by omega), KE.out.2.2⟩
   have hn := he.le
   have hR := K.out.take n hn
   have htl : (l.take n).length = n := by rw [List.length_take]; omega
   have Kt := Lib.hid he.trim
   have KR := Lib.hid hR
   have Kl := Lib.hid htl
   have hcn : n ≤ c := by omega
   clear he hR htl
   go_wp2_with (at_builtin; refine wpList_append_own3 _ rfl (.tmp 18) (.tmp 21) 25 rfl wr.heap.size 3 i0 _ 1 8 Tryd.underlying25 hi hz0 hz1 hz2 rfl (by decide) (.slice (some ⟨wr.heap.size, 0, none⟩) 0 0) 0 [] rfl ?c1 A n c (vals (l.take n)) rfl ?c2 ?c3 (vals_one _) ?c4 ?c5 ?c6 ?_)
   case c1 => exact own_empty _ _ _ (Nat.le_refl _)
   case c2 => rw [vals_length, Kl.out, Nat.mul_one]
   case c3 =>
    exact row_lies (KR.out.alloc hB _) Kl.out
   case c4 => unfold maxLen; omega
   case c5 => omega
   case c6 => simp
   intro v' w1 hown hgrow hsn
   have KO := Lib.hid (show OwnI w1 wr.heap.size v' (Tb.trim l) by
    rw [Kt.out]
    unfold OwnI
    rw [Kl.out]
    simpa using hown)
   have Kb := Lib.hid (((Below.refl wr.heap.size wr).alloc (Nat.le_refl _) _).grown hgrow (by simp) (fun k hk => by simp [Value.ownBlock] at hk; omega))
   clear hown hgrow hsn
   go_wp2_with fail
   go_ret
   exact ⟨_, rfl, KO.out, Kb.out⟩
end Go.Proofs.YtjcijffhcmbhnaaDoor
