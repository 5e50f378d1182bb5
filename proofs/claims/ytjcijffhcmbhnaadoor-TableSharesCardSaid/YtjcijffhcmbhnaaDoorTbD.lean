import Derived.Test.YtjcijffhcmbhnaaDoorTbC
namespace Go.Proofs.YtjcijffhcmbhnaaDoor
set_option maxRecDepth 100000
open Go.RowKit
open BitKit
set_option linter.unusedVariables false
set_option linter.unusedSimpArgs false
def Tab (w : World) : Prop := ∀ j, j < Lib.deBruijn64tab.length → w.cell? ⟨0, j, none⟩ = some (.int .u8 (Lib.deBruijn64tab.getD j 0 : Nat))
theorem tz_key (x a : Nat) (hx : x < 18446744073709551616) (hx0 : x ≠ 0) (hlow : x &&& (18446744073709551616 - x) = a) :
  IntKind.u64.wrap (bits BinOp.and IntKind.u64 (x : Int) (IntKind.u64.wrap (-(x : Int))) * 285870213051353865) / 288230376151711744 = ((a * 285870213051353865 % 18446744073709551616 / 288230376151711744 : Nat) : Int) := by
 have e1 : IntKind.u64.wrap (-(x : Int)) = ((18446744073709551616 - x : Nat) : Int) := by rw [IntKind.wrap_u64]; omega
 rw [e1, u64_and_nat x _ hx (by omega), hlow, IntKind.wrap_u64]
 omega
set_option maxHeartbeats 1000000 in
theorem tz_core (x k idx : Nat) (w : World) (hz : ((x : Int) == 0) = false)
  (key : IntKind.u64.wrap (bits BinOp.and IntKind.u64 (x : Int) (IntKind.u64.wrap (-(x : Int))) * 285870213051353865) / 288230376151711744 = (idx : Int))
  (hi : idx < 64) (hk : k < 64) (hcell : w.cell? ⟨0, idx, none⟩ = some (.int .u8 (k : Int))) :
  Calls Tryd.prog 31 #[.int .u64 (x : Int)] w fun e w' => e = .returned (.int .i64 (k : Int)) ∧ w' = w := by
 go_enter Tryd.func31, Tryd.ntmps31
 go_wp2_with fail
 go_ret
 exact ⟨rfl, rfl⟩
theorem tz_any (x : Nat) (hx : x < 18446744073709551616) (hx0 : x ≠ 0) (w : World) (hT : Tab w) :
  Calls Tryd.prog 31 #[.int .u64 (x : Int)] w fun e w' => e = .returned (.int .i64 ((Lib.ctz 64 x : Nat) : Int)) ∧ w' = w := by
 obtain ⟨hlow, hk⟩ := Lib.lowest_bit 64 x hx0 hx
 obtain ⟨hi, htab⟩ := Lib.deBruijn64_at _ hk
 have hcell := hT _ hi
 rw [htab] at hcell
 exact tz_core x _ _ w (by simp; omega) (tz_key x _ hx hx0 hlow) hi hk hcell
theorem Tab.below {n₀ : Nat} {w w' : World} (h : Tab w) (hb : Below n₀ w w') (h0 : 0 < n₀) : Tab w' := fun j hj => (hb.cell (p := ⟨0, j, none⟩) h0).trans (h j hj)
theorem pow_cast (j : Nat) : (2 : Int) ^ j = ((2 ^ j : Nat) : Int) := by simp
theorem pow_small {j : Nat} (h : j < 64) : 2 ^ j < 18446744073709551616 := Nat.pow_lt_pow_right (by decide) h
namespace Tb
theorem from_lt {L : List Nat} (h : ∀ x ∈ L, x < 18446744073709551616) (i : Nat) : from_ L i < 18446744073709551616 := by
 unfold from_
 refine Nat.or_lt_two_pow (n := 64) ?_ (Nat.mod_lt _ (by decide))
 refine Nat.lt_of_le_of_lt (Nat.div_le_self _ _) ?_
 by_cases hi : i / 64 < L.length
 ·rw [List.getD, List.getElem?_eq_getElem hi]; exact h _ (List.getElem_mem hi)
 ·rw [List.getD, List.getElem?_eq_none (by omega)]; decide
theorem word_lt {L : List Nat} (h : ∀ x ∈ L, x < 18446744073709551616) (i : Nat) : L.getD i 0 < 2 ^ 64 := by
 by_cases hi : i < L.length
 ·rw [List.getD, List.getElem?_eq_getElem hi]; exact h _ (List.getElem_mem hi)
 ·rw [List.getD, List.getElem?_eq_none (by omega)]; decide
theorem from_bit {L : List Nat} (h : ∀ x ∈ L, x < 18446744073709551616) (i j : Nat) (hj : j < 64) : (from_ L i).testBit j = bit L (i + j) := by
 unfold from_ bit
 have hx := word_lt h (i / 64)
 have hy := word_lt h (i / 64 + 1)
 have h64 : (18446744073709551616 : Nat) = 2 ^ 64 := by decide
 rw [Nat.testBit_or, Nat.testBit_div_two_pow, h64, Nat.testBit_mod_two_pow, Nat.mul_comm, Nat.testBit_two_pow_mul]
 by_cases hc : i % 64 + j < 64
 ·have e1 : (i + j) / 64 = i / 64 := by omega
  have e2 : (i + j) % 64 = i % 64 + j := by omega
  have e3 : ¬ 64 - i % 64 ≤ j := by omega
  rw [e1, e2]
  simp [e3, Nat.add_comm]
 ·have e1 : (i + j) / 64 = i / 64 + 1 := by omega
  have e2 : (i + j) % 64 = j - (64 - i % 64) := by omega
  have e3 : 64 - i % 64 ≤ j := by omega
  have e4 : (L.getD (i / 64) 0).testBit (j + i % 64) = false := Nat.testBit_lt_two_pow (Nat.lt_of_lt_of_le hx (Nat.pow_le_pow_right (by decide) (by omega)))
  rw [e1, e2, e4]
  simp [e3, hj]
theorem bit_out {L : List Nat} {i : Nat} (h : 64 * L.length ≤ i) : bit L i = false := by
 unfold bit
 have : L.length ≤ i / 64 := by omega
 rw [List.getD, List.getElem?_eq_none this]; simp
theorem bit_noughts (L : List Nat) (m i : Nat) : bit (L ++ List.replicate m 0) i = bit L i := by
 unfold bit
 congr 1
 by_cases h : i / 64 < L.length
 ·rw [List.getD, List.getD, List.getElem?_append_left h]
 ·rw [List.getD, List.getD, List.getElem?_append_right (by omega), List.getElem?_replicate, List.getElem?_eq_none (show L.length ≤ i / 64 by omega)]
  split <;> rfl
theorem bit_set {L : List Nat} {i x : Nat} (h : L[i / 64]? = some x) (j : Nat) : bit (L.set (i / 64) (x ||| 2 ^ (i % 64))) j = (decide (j = i) || bit L j) := by
 have hlt := (List.getElem?_eq_some_iff.1 h).1
 unfold bit
 by_cases he : j / 64 = i / 64
 ·have e1 : (L.set (i / 64) (x ||| 2 ^ (i % 64))).getD (j / 64) 0 = x ||| 2 ^ (i % 64) := by
   rw [he, List.getD, List.getElem?_set_self hlt]; rfl
  have e2 : L.getD (j / 64) 0 = x := by rw [he, List.getD, h]; rfl
  rw [e1, e2, Nat.testBit_or, Nat.testBit_two_pow]
  by_cases h2 : j = i
  ·subst h2; simp
  ·have h3 : ¬ i % 64 = j % 64 := by omega
   simp [h2, h3]
 ·have e1 : (L.set (i / 64) (x ||| 2 ^ (i % 64))).getD (j / 64) 0 = L.getD (j / 64) 0 := by
   rw [List.getD, List.getElem?_set_ne (by omega)]; rfl
  have h2 : ¬ j = i := by omega
  rw [e1]; simp [h2]
end Tb
theorem from_any (B : Nat) (v : Value) (L : List Nat) (i : Nat) (hi : i ≤ 50000) (w : World) (h : OwnW w B v L) :
  Calls Tryd.prog 30 #[v, .int .i64 (i : Int)] w fun e w' => e = .returned (.int .u64 ((Tb.from_ L i : Nat) : Int)) ∧ ∃ k, w' = w.drewN k := by
 refine (from_core v ((i : Int) / 64) ((i : Int) % 64) (fun j => L.getD j 0) (i : Int) (by omega) (by omega) rfl rfl (by omega) (by omega) (by omega) (by omega) w (fun k j h0 h1 => word_int B v L w h k j h0 h1)).mono ?_
 rintro e w' ⟨he, hw⟩
 refine ⟨?_, hw⟩
 rw [he]
 congr 2
 have a1 : ((i : Int) / 64).toNat = i / 64 := by omega
 have a2 : ((i : Int) % 64).toNat = i % 64 := by omega
 have a3 : ((i : Int) / 64 + 1).toNat = i / 64 + 1 := by omega
 have a4 : (64 - (i : Int) % 64).toNat = 64 - i % 64 := by omega
 rw [a1, a2, a3, a4]
 have hx := Tb.word_lt h.lt (i / 64)
 have hy := Tb.word_lt h.lt (i / 64 + 1)
 unfold Tb.from_
 generalize L.getD (i / 64) 0 = x at hx ⊢
 generalize L.getD (i / 64 + 1) 0 = y at hy ⊢
 have e1 : (x : Int) / 2 ^ (i % 64) = ((x / 2 ^ (i % 64) : Nat) : Int) := by rw [pow_cast]; exact (Int.natCast_ediv _ _).symm
 have e2 : IntKind.u64.wrap ((y : Int) * 2 ^ (64 - i % 64)) = (((y * 2 ^ (64 - i % 64)) % 18446744073709551616 : Nat) : Int) := by
  rw [pow_cast, IntKind.wrap_u64, ← Int.natCast_mul]
  generalize y * 2 ^ (64 - i % 64) = z
  omega
 rw [e1, e2, u64_or_nat _ _ (Nat.lt_of_le_of_lt (Nat.div_le_self _ _) (by exact hx)) (Nat.mod_lt _ (by decide))]
theorem OwnW.at_ {w : World} {B : Nat} {v : Value} {L : List Nat} (h : OwnW w B v L) {i x : Nat} (hx : L[i]? = some x) : ∃ g c, v = .slice (some ⟨g, 0, none⟩) L.length c ∧ B ≤ g ∧ w.cell? ⟨g, i, none⟩ = some (.int .u64 (x : Int)) ∧ w.frozen? ⟨g, i, none⟩ = false := by
 have hlt := (List.getElem?_eq_some_iff.1 hx).1
 obtain ⟨g, c, rfl, _, hB⟩ := own_pos h.own (by omega)
 have c0 := h.own.cellAt i (by omega)
 rw [words_get hx] at c0
 exact ⟨g, c, rfl, hB, c0, h.own.frozenAt i⟩
theorem take_any (B : Nat) (v : Value) (L : List Nat) (i x : Nat) (hi : i ≤ 50000) (hx : L[i / 64]? = some x) (w : World) (h : OwnW w B v L) :
  Calls Tryd.prog 27 #[v, .int .i64 (i : Int)] w fun e w' => e = .returned (.tuple #[]) ∧ OwnW w' B v (L.set (i / 64) (x ||| 2 ^ (i % 64))) ∧ w.grownBy w' v.ownBlock := by
 obtain ⟨g, c, rfl, hB, hc, hz⟩ := h.at_ hx
 have hlt := (List.getElem?_eq_some_iff.1 hx).1
 have hlen := h.len
 refine (take_core g L.length c (i / 64) (i % 64) x (i : Int) (by omega) (by omega) (by omega) (by omega) hlt (by have := h.len; omega) (by omega) w hc hz).mono ?_
 rintro e w' ⟨he, k, rfl⟩
 refine ⟨he, ?_, ?_⟩
 ·have hx64 : x < 18446744073709551616 := h.lt x (List.mem_of_getElem? hx)
  have hp := pow_small (j := i % 64) (by omega)
  have e1 : IntKind.u64.wrap (2 ^ (i % 64)) = ((2 ^ (i % 64) : Nat) : Int) := by
   rw [pow_cast, IntKind.wrap_u64]
   generalize 2 ^ (i % 64) = p at hp
   omega
  have e2 : bits .or .u64 (x : Int) (IntKind.u64.wrap (2 ^ (i % 64))) = ((x ||| 2 ^ (i % 64) : Nat) : Int) := by rw [e1, u64_or_nat _ _ hx64 hp]
  rw [e2]
  have hst := ((h.drewN k).own.stored (i / 64) (.int .u64 ((x ||| 2 ^ (i % 64) : Nat) : Int))).1
  rw [words_set] at hst
  refine ⟨by rw [List.length_set]; exact hst, fun y hy => ?_, by rw [List.length_set]; exact h.len⟩
  rcases List.mem_or_eq_of_mem_set hy with h1 | h1
  ·exact h.lt y h1
  ·rw [h1]; exact Nat.or_lt_two_pow (n := 64) hx64 hp
 ·exact grown_set (grown_drewN (grown_refl w _) k) _ _
theorem Tryd.infoU64 : (Tryd.prog.info? 50).map (fun i => (i.zero, i.size, i.bytes)) = some (some (.int .u64 0), 1, 8) := by kernel_rfl
theorem wpList_append_noughts {P : Program} (w : World) {ops : Array Oper} {rest : List Oper} {o : Oper} {a : Act} {Q : Exit → Act → World → Prop} (hgd : o.guard = none) (s x : Operand) (t ti : TypeId)
  (ho : o.op = .call { callee := .builtin .append, args := #[s, x], argTypes := #[t, ti] })
  (base : Nat) (e : TypeId) (i : TypeInfo) (z : Value) (bytes : Nat) (ht : P.underlying t = some (.slice e)) (hti : P.underlying ti = some (.int .i64)) (hi : P.info? e = some i) (hz : i.zero = some z)
  (hsize : i.size = 1) (hby : i.bytes = bytes) (hzc : z.cells = #[z]) (hz1 : z.oneCell' = true)
  (v : Value) (n : Nat) (xs : List Value) (hs : a.eval s = v) (hown : w.ownsRow base e 1 v n xs) (m : Nat) (hx : a.eval x = .int .i64 (m : Int))
  (h63 : n + m ≤ 1099511627776) (hb8 : bytes ≤ 8) (hbase : base ≤ w.heap.size)
  (h : ∀ v' w', w'.ownsRow base e 1 v' (n + m) (xs ++ List.replicate m z) → w.grownBy w' v.ownBlock → SameOrNew w v v' → wpList P ops Q rest (a.put o.dst v') w') : wpList P ops Q (o :: rest) a w := by
 refine wpList_plain hgd fun K hK => ?_
 obtain ⟨v', w', hr, h2, h3, h4⟩ := run_append_noughts (P := P) w base t ti o.type e .i64 i z bytes ht hti hi hz hsize hby hzc hz1 v n xs hown m h63 hb8 hbase
 unfold Oper.wp execOp
 simp only [ho, resolve, invoke, builtin, Sem.run_bind, Sem.run_pure, Result.andThen_ok, List.map_toArray, List.map_cons, List.map_nil, hs, hx, hr]
 exact hK _ _ (h v' w' h2 h3 h4)
def Tb.longer {α : Type} (z : α) (l : List α) (n : Nat) : List α := l ++ List.replicate (n - l.length) z
theorem Tb.longer_length {α : Type} (z : α) (l : List α) (n : Nat) : (Tb.longer z l n).length = max l.length n := by simp [Tb.longer]; omega
theorem Tb.longer_getD (l : List Int) (n i : Nat) : (Tb.longer 0 l n).getD i 0 = l.getD i 0 := by
 unfold Tb.longer
 by_cases h : i < l.length
 ·rw [List.getD, List.getD, List.getElem?_append_left h]
 ·rw [List.getD, List.getD, List.getElem?_append_right (by omega), List.getElem?_replicate, List.getElem?_eq_none (show l.length ≤ i by omega)]
  split <;> rfl
theorem vals_noughts (m : Nat) : vals (List.replicate m 0) = List.replicate m (.int .i64 0) := by simp [vals]
theorem words_noughts (m : Nat) : words (List.replicate m 0) = List.replicate m (.int .u64 0) := by simp [words]
theorem OwnW.longer {w w' : World} {B : Nat} {v v' : Value} {L : List Nat} (h : OwnW w B v L) {n : Nat} (hn : n ≤ 60000)
  (ho : w'.ownsRow B 50 1 v' (L.length + (n - L.length)) (words L ++ List.replicate (n - L.length) (.int .u64 0))) : OwnW w' B v' (Tb.longer 0 L n) := by
 refine ⟨?_, fun x hx => ?_, ?_⟩
 ·unfold Tb.longer
  rw [List.length_append, List.length_replicate, show words (L ++ List.replicate (n - L.length) 0) = words L ++ List.replicate (n - L.length) (.int .u64 0) by rw [← words_noughts]; simp [words]]
  exact ho
 ·rcases List.mem_append.1 hx with h1 | h1
  ·exact h.lt x h1
  ·rw [List.eq_of_mem_replicate h1]; decide
 ·rw [Tb.longer_length]; have := h.len; omega
set_option maxHeartbeats 1000000 in
theorem longeri_any (B : Nat) (v : Value) (l : List Int) (n : Nat) (hl : l.length ≤ 60000) (hn : n ≤ 60000) (w : World) (h : OwnI w B v l) (hB : B ≤ w.heap.size) :
  Calls Tryd.prog 26 #[v, .int .i64 (n : Int)] w fun e w' => ∃ v', e = .returned v' ∧ OwnI w' B v' (Tb.longer 0 l n) ∧ w.grownBy w' v.ownBlock ∧ SameOrNew w v v' := by
 obtain ⟨i0, hi, hz0, hz1, hz2⟩ := info_parts Tryd.infoInt
 obtain ⟨a, c, rfl⟩ := h.shape
 have K := Lib.hid h
 clear h
 by_cases hlt : l.length < n
 ·have Km := Lib.hid (show (n : Int) - (l.length : Int) = ((n - l.length : Nat) : Int) by omega)
  have q2 : (0 : Int) < (n : Int) - (l.length : Int) := by omega
  go_enter Tryd.func26, Tryd.ntmps26
  go_wp2_with (at_builtin; refine wpList_append_noughts _ rfl (.tmp 5) (.tmp 10) 25 3 rfl B 3 i0 (.int .i64 0) 8 Tryd.underlying25 Tryd.underlying3 hi hz0 hz1 hz2 rfl rfl (.slice a l.length c) l.length (vals l) rfl K.out (n - l.length) (congrArg (Value.int .i64) Km.out) (by omega) (by omega) hB ?_)
  intro v' w1 hown hgrow hsn
  have KO := Lib.hid (show OwnI w1 B v' (Tb.longer 0 l n) by
   unfold OwnI Tb.longer
   rw [List.length_append, List.length_replicate, vals_append, vals_noughts]
   exact hown)
  have KG := Lib.hid (And.intro hgrow hsn)
  clear hown hgrow hsn
  go_wp2_with fail
  go_ret
  exact ⟨_, rfl, KO.out, KG.out⟩
 ·have q2 : ¬ (0 : Int) < (n : Int) - (l.length : Int) := by omega
  have Km := Lib.hid (show n - l.length = 0 by omega)
  go_enter Tryd.func26, Tryd.ntmps26
  go_wp2_with (at_builtin; refine wpList_append_noughts _ rfl (.tmp 5) (.tmp 10) 25 3 rfl B 3 i0 (.int .i64 0) 8 Tryd.underlying25 Tryd.underlying3 hi hz0 hz1 hz2 rfl rfl (.slice a l.length c) l.length (vals l) rfl K.out 0 rfl (by omega) (by omega) hB ?_)
  intro v' w1 hown hgrow hsn
  have KO := Lib.hid (show OwnI w1 B v' (Tb.longer 0 l n) by
   have e := Km.out
   unfold OwnI Tb.longer
   rw [e, List.length_append, List.length_replicate, vals_append, vals_noughts]
   simpa using hown)
  have KG := Lib.hid (And.intro hgrow hsn)
  clear hown hgrow hsn
  go_wp2_with fail
  go_ret
  exact ⟨_, rfl, KO.out, KG.out⟩
set_option maxHeartbeats 1000000 in
theorem longerw_any (B : Nat) (v : Value) (l : List Nat) (n : Nat) (hl : l.length ≤ 60000) (hn : n ≤ 60000) (w : World) (h : OwnW w B v l) (hB : B ≤ w.heap.size) :
  Calls Tryd.prog 25 #[v, .int .i64 (n : Int)] w fun e w' => ∃ v', e = .returned v' ∧ OwnW w' B v' (Tb.longer 0 l n) ∧ w.grownBy w' v.ownBlock ∧ SameOrNew w v v' := by
 obtain ⟨i0, hi, hz0, hz1, hz2⟩ := info_parts Tryd.infoU64
 obtain ⟨a, c, rfl⟩ := h.shape
 have K := Lib.hid h
 clear h
 by_cases hlt : l.length < n
 ·have Km := Lib.hid (show (n : Int) - (l.length : Int) = ((n - l.length : Nat) : Int) by omega)
  have q2 : (0 : Int) < (n : Int) - (l.length : Int) := by omega
  go_enter Tryd.func25, Tryd.ntmps25
  go_wp2_with (at_builtin; refine wpList_append_noughts _ rfl (.tmp 5) (.tmp 10) 46 3 rfl B 50 i0 (.int .u64 0) 8 Tryd.underlying46 Tryd.underlying3 hi hz0 hz1 hz2 rfl rfl (.slice a l.length c) l.length (words l) rfl K.out.own (n - l.length) (congrArg (Value.int .i64) Km.out) (by omega) (by omega) hB ?_)
  intro v' w1 hown hgrow hsn
  have KO := Lib.hid (show OwnW w1 B v' (Tb.longer 0 l n) by exact OwnW.longer K.out hn hown)
  have KG := Lib.hid (And.intro hgrow hsn)
  clear hown hgrow hsn
  go_wp2_with fail
  go_ret
  exact ⟨_, rfl, KO.out, KG.out⟩
 ·have q2 : ¬ (0 : Int) < (n : Int) - (l.length : Int) := by omega
  have Km := Lib.hid (show n - l.length = 0 by omega)
  go_enter Tryd.func25, Tryd.ntmps25
  go_wp2_with (at_builtin; refine wpList_append_noughts _ rfl (.tmp 5) (.tmp 10) 46 3 rfl B 50 i0 (.int .u64 0) 8 Tryd.underlying46 Tryd.underlying3 hi hz0 hz1 hz2 rfl rfl (.slice a l.length c) l.length (words l) rfl K.out.own 0 rfl (by omega) (by omega) hB ?_)
  intro v' w1 hown hgrow hsn
  have KO := Lib.hid (show OwnW w1 B v' (Tb.longer 0 l n) by
   have e := Km.out
   refine OwnW.longer K.out hn ?_
   rw [e]
   simpa using hown)
  have KG := Lib.hid (And.intro hgrow hsn)
  clear hown hgrow hsn
  go_wp2_with fail
  go_ret
  exact ⟨_, rfl, KO.out, KG.out⟩
end Go.Proofs.YtjcijffhcmbhnaaDoor
