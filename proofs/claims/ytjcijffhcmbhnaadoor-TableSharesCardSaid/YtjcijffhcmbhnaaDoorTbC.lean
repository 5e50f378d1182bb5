import Derived.Test.YtjcijffhcmbhnaaDoorTbB
import Derived.Laws.BitsAllLaws
namespace Go.Proofs.YtjcijffhcmbhnaaDoor
set_option maxRecDepth 100000
open Go.RowKit
set_option linter.unusedVariables false
set_option linter.unusedSimpArgs false
section
variable {P : Program} (w : World)
theorem zeroCells_one (z : Value) (hz : z.cells = #[z]) (m : Nat) : (Builtin.zeroCells z.cells m).toList = List.replicate m z := by
 rw [hz]
 apply List.ext_getElem
 ·simp [Builtin.zeroCells]
 ·intro i h1 h2
  simp [Builtin.zeroCells, Nat.mod_one]
theorem run_append_noughts (base : Nat) (t ti ty e : TypeId) (k : IntKind) (i : TypeInfo) (z : Value) (bytes : Nat) (ht : P.underlying t = some (.slice e)) (hti : P.underlying ti = some (.int .i64)) (hi : P.info? e = some i) (hz : i.zero = some z)
  (hsize : i.size = 1) (hby : i.bytes = bytes) (hzc : z.cells = #[z]) (hz1 : z.oneCell' = true)
  (v : Value) (n : Nat) (xs : List Value) (hown : w.ownsRow base e 1 v n xs) (m : Nat)
  (h63 : n + m ≤ 1099511627776) (hb8 : bytes ≤ 8) (hbase : base ≤ w.heap.size) :
  ∃ v' w', (Builtin.append_ #[t, ti] ty #[v, .int .i64 (m : Int)]).run P w = .ok v' w' ∧ w'.ownsRow base e 1 v' (n + m) (xs ++ List.replicate m z) ∧ w.grownBy w' v.ownBlock ∧ SameOrNew w v v' := by
 have hwr : IntKind.i64.wrap (m : Int) = (m : Int) := IntWalk.i64_in _ (by omega)
 have hb : (m : Int) * (bytes : Int) ≤ 281474976710656 := by
  have h1 : m * bytes ≤ 1099511627776 * 8 := Nat.mul_le_mul (by omega) hb8
  have h2 : ((m * bytes : Nat) : Int) ≤ 281474976710656 := by omega
  rwa [Int.natCast_mul] at h2
 have hl0 : ¬ (m : Int) < 0 := by omega
 have hb2 : ¬ 281474976710656 < (m : Int) * (bytes : Int) := by omega
 have hlen : (xs ++ List.replicate m z).length = (n + m) * 1 := by rw [List.length_append, hown.1]; simp
 have hai : ∀ w, (asInt (.int .i64 (m : Int))).run P w = .ok (m : Int) w := fun w => by simp [asInt, asIntOf]
 have hmn : ((m : Int)).toNat = m := by omega
 have hzt := zeroCells_one z hzc m
 have hza : Builtin.zeroCells z.cells m = (List.replicate m z).toArray := by rw [← hzt, Array.toArray_toList]
 have hzl : (List.replicate m z).length = m := List.length_replicate
 have grown : ∀ (old : Nat), old < n + m → ∀ (row : Option Nat),
   (w.drew.alloc (.cells (xs.toArray ++ (List.replicate m z).toArray ++ Builtin.zeroCells z.cells (grownCap w (n + m) old e - (n + m))) e)).ownsRow base e 1
    (.slice (some ⟨w.heap.size, 0, none⟩) (n + m) (grownCap w (n + m) old e)) (n + m) (xs ++ List.replicate m z) ∧
   w.grownBy (w.drew.alloc (.cells (xs.toArray ++ (List.replicate m z).toArray ++ Builtin.zeroCells z.cells (grownCap w (n + m) old e - (n + m))) e)) row ∧
   SameOrNew w v (.slice (some ⟨w.heap.size, 0, none⟩) (n + m) (grownCap w (n + m) old e)) := by
  intro old ho row
  have hge := grownCap_ge w (n + m) old e
  have hcm : grownCap w (n + m) old e ≤ maxLen := grownCap_le_maxLen w (n + m) old e (by unfold maxLen; omega)
  refine ⟨⟨hlen, .inr ⟨w.heap.size, _, _, rfl, hbase, heap_alloc_new w.drew _, hge, hcm, ?_, ?_⟩⟩, ⟨rfl, rfl, rfl, by simp, fun q hq _ => heap_alloc_old w.drew _ hq⟩, fun k hk => .inr (by simp [Value.ownBlock] at hk; omega)⟩
  ·have := hown.1
   have h1 : z.cells.size = 1 := by rw [hzc]; rfl
   simp only [Array.size_append, List.size_toArray, size_zeroCells, hzl, hown.1, h1, Nat.mul_one]
   omega
  ·simp only [Array.toList_append, List.append_assoc]
   rw [← List.append_assoc, ← hlen]
   exact List.take_left
 rcases hown.2 with ⟨rfl, rfl⟩ | ⟨g, cap, cur, rfl, hbg, hg, hnc, hcm, hcs, htake⟩
 ·have hx : xs = [] := List.eq_nil_of_length_eq_zero (by simpa using hown.1)
  subst hx
  by_cases hm : m = 0
  ·subst hm
   refine ⟨.slice none 0 0, w, ?_, by simpa using World.ownsRow_nil w base e 1, grown_refl w _, SameOrNew.refl w _⟩
   have h0 : ((0 : Nat) : Int) = 0 := rfl
   rw [h0] at hai hwr
   simp [Builtin.append_, run_underlying ht, run_underlying hti, sizeOf, typeInfo, hi, hai, hwr]
  ·have h63' : ¬ (9223372036854775807 < (m : Int)) := by omega
   have h48' : ¬ (281474976710656 < Builtin.nextslicecap m 0 * bytes) := by
    rw [nextslicecap_zero (by omega)]
    omega
   obtain ⟨g1, g2, g3⟩ := grown 0 (by omega) (Value.ownBlock (.slice none 0 0))
   simp only [Nat.zero_add, List.nil_append] at g1 g2 g3 ⊢
   refine ⟨_, _, ?_, g1, g2, g3⟩
   simp [Builtin.append_, run_underlying ht, run_underlying hti, sizeOf, typeInfo, zeroValue, hi, hz, hai, hwr, hm, h63', h48', hl0, hsize, hby, hb2, hmn, Question.forced, run_firstCells_none, newRow, grownCap, hza]
 ·have h63' : ¬ (9223372036854775807 < ((n : Int) + (m : Int))) := by omega
  by_cases hm : m = 0
  ·subst hm
   have h0 : ((0 : Nat) : Int) = 0 := rfl
   rw [h0] at hai hwr
   refine ⟨.slice (some ⟨g, 0, none⟩) n cap, w, ?_, by simpa using hown, grown_refl w _, SameOrNew.refl w _⟩
   simp [Builtin.append_, run_underlying ht, run_underlying hti, sizeOf, typeInfo, hi, hai, hwr, hnc, storeCells]
  by_cases hroom : n + m ≤ cap
  ·have hfit : n * 1 + (List.replicate m z).length ≤ cur.size := by rw [hzl, hcs]; omega
   have h1 : ∀ u ∈ List.replicate m z, u.oneCell' = true := fun u hu => by rw [List.eq_of_mem_replicate hu]; exact hz1
   have hst := run_storeCells_at P g (n * 1) e (List.replicate m z) 0 cur w hg (by simpa using hfit) h1
   simp only [Nat.add_zero] at hst
   refine ⟨.slice (some ⟨g, 0, none⟩) (n + m) cap, w.setRow g (cur.toList.take (n * 1) ++ List.replicate m z ++ cur.toList.drop (n * 1 + (List.replicate m z).length)).toArray, ?_, ⟨hlen, .inr ⟨g, cap, _, rfl, hbg, setRow_heap w g cur _ e _ hg, hroom, hcm, ?_, ?_⟩⟩, ⟨rfl, rfl, rfl, by simp, fun k _ hk => setRow_other w g k _ (fun e => hk (by simp [Value.ownBlock, e]))⟩, fun k hk => .inl hk⟩
   ·rw [Nat.mul_one] at hst
    simp [Builtin.append_, run_underlying ht, run_underlying hti, sizeOf, typeInfo, zeroValue, hi, hz, hai, hwr, hroom, hm, hl0, hsize, hby, hb2, hmn, Addr.add_lit, hza, hst]
   ·simp only [List.size_toArray, List.length_append, List.length_take, List.length_drop, Array.length_toList]
    omega
   ·rw [htake, ← hlen]
    exact List.take_left
  ·have holds : ∀ j u, xs[j]? = some u → w.cell? ((⟨g, 0, none⟩ : Addr).add j) = some u := hown.cells (g := g) rfl
   have hfit := growslice_fits (need := n + m) (old := cap) (bytes := bytes) (by omega) (by
    have h1 : (n + m) * bytes ≤ 1099511627776 * 8 := Nat.mul_le_mul (by omega) hb8
    omega)
   have hfo := run_firstCells_some (P := P) w.drew 1 n ⟨g, 0, none⟩ n cap xs hown.1 (by simpa using holds)
   obtain ⟨g1, g2, g3⟩ := grown cap (by omega) (Value.ownBlock (.slice (some ⟨g, 0, none⟩) n cap))
   have h48' : ¬ (281474976710656 < Builtin.nextslicecap (n + m) cap * bytes) := by omega
   refine ⟨_, _, ?_, g1, g2, g3⟩
   simp [Builtin.append_, run_underlying ht, run_underlying hti, sizeOf, typeInfo, zeroValue, hi, hz, hai, hwr, hroom, hm, h63', h48', hl0, hsize, hby, hb2, hmn, Question.forced, hfo, newRow, grownCap, hza]
end
def words (L : List Nat) : List Value := L.map fun x : Nat => .int .u64 (x : Int)
theorem words_length (L : List Nat) : (words L).length = L.length := by simp [words]
theorem words_get {L : List Nat} {i x : Nat} (h : L[i]? = some x) : (words L)[i]? = some (.int .u64 (x : Int)) := by simp [words, h]
theorem words_set (L : List Nat) (i x : Nat) : (words L).set i (.int .u64 (x : Int)) = words (L.set i x) := by unfold words; rw [List.map_set]
structure OwnW (w : World) (B : Nat) (v : Value) (L : List Nat) : Prop where
 own : w.ownsRow B 50 1 v L.length (words L)
 lt : ∀ x ∈ L, x < 18446744073709551616
 len : L.length ≤ 60000
theorem OwnW.shape {w : World} {B : Nat} {v : Value} {L : List Nat} (h : OwnW w B v L) : ∃ a c, v = .slice a L.length c := by
 obtain ⟨a, c, h1, _⟩ := own_slice h.own
 exact ⟨a, c, h1⟩
theorem OwnW.drewN {w : World} {B : Nat} {v : Value} {L : List Nat} (h : OwnW w B v L) (k : Nat) : OwnW (w.drewN k) B v L := ⟨own_drewN h.own k, h.lt, h.len⟩
theorem word_any (B : Nat) (v : Value) (L : List Nat) (i : Nat) (hi : i ≤ 60000) (w : World) (h : OwnW w B v L) :
  Calls Tryd.prog 33 #[v, .int .i64 (i : Int)] w fun e w' => e = .returned (.int .u64 ((L.getD i 0 : Nat) : Int)) ∧ w' = w := by
 obtain ⟨a, c, rfl⟩ := h.shape
 have hlen := h.len
 by_cases hlt : i < L.length
 ·obtain ⟨x, hx⟩ : ∃ x, L[i]? = some x := ⟨_, List.getElem?_eq_getElem hlt⟩
  have hxd : L.getD i 0 = x := by rw [List.getD, hx]; rfl
  obtain ⟨g, cg, he, _⟩ := own_pos h.own (by omega)
  simp only [Value.slice.injEq, true_and] at he
  obtain ⟨rfl, rfl⟩ := he
  have c0 := h.own.cellAt i (by omega)
  rw [words_get hx] at c0
  have q1 : (0 : Int) ≤ (i : Int) := by omega
  have q2 : (i : Int) < (L.length : Int) := by omega
  have q3 : ((i : Int)).toNat = i := by omega
  rw [hxd]
  clear hx hxd h
  go_enter Tryd.func33, Tryd.ntmps33
  go_wp2_with fail
  go_ret
  exact ⟨rfl, rfl⟩
 ·have hxd : L.getD i 0 = 0 := by simp [List.getD, List.getElem?_eq_none (show L.length ≤ i by omega)]
  have q2 : (L.length : Int) ≤ (i : Int) := by omega
  rw [hxd]
  clear h hxd
  go_enter Tryd.func33, Tryd.ntmps33
  go_wp2_with fail
  go_ret
  exact ⟨rfl, rfl⟩
theorem word_quiet (B : Nat) (v : Value) (L : List Nat) (i : Nat) (hi : i ≤ 60000) (w : World) (h : OwnW w B v L) :
  Calls Tryd.prog 33 #[v, .int .i64 (i : Int)] w fun e w' => e = .returned (.int .u64 ((L.getD i 0 : Nat) : Int)) ∧ ∃ k, w' = w.drewN k :=
 (word_any B v L i hi w h).mono fun e w' ⟨h1, h2⟩ => ⟨h1, 0, h2⟩
namespace Tb
def bit (L : List Nat) (i : Nat) : Bool := (L.getD (i / 64) 0).testBit (i % 64)
def from_ (L : List Nat) (i : Nat) : Nat := L.getD (i / 64) 0 / 2 ^ (i % 64) ||| (L.getD (i / 64 + 1) 0 * 2 ^ (64 - i % 64)) % 18446744073709551616
end Tb
theorem word_int (B : Nat) (v : Value) (L : List Nat) (w : World) (h : OwnW w B v L) (k : Nat) (j : Int) (h0 : 0 ≤ j) (h1 : j ≤ 60000) :
  Calls Tryd.prog 33 #[v, .int .i64 j] (w.drewN k) fun e w' => e = .returned (.int .u64 ((L.getD j.toNat 0 : Nat) : Int)) ∧ ∃ m, w' = (w.drewN k).drewN m := by
 have := word_quiet B v L j.toNat (by omega) (w.drewN k) (h.drewN k)
 rwa [Int.toNat_of_nonneg h0] at this
set_option maxHeartbeats 1000000 in
theorem from_core (v : Value) (q r : Int) (X : Nat → Nat) (i : Int) (h0 : 0 ≤ i) (hi : i ≤ 60000) (hq : i / 64 = q) (hr : i % 64 = r) (hq0 : 0 ≤ q) (hq1 : q ≤ 50000) (hr0 : 0 ≤ r) (hr1 : r < 64) (w : World)
  (k1 : ∀ (k : Nat) (j : Int), 0 ≤ j → j ≤ 60000 → Calls Tryd.prog 33 #[v, .int .i64 j] (w.drewN k) fun e w' => e = .returned (.int .u64 ((X j.toNat : Nat) : Int)) ∧ ∃ m, w' = (w.drewN k).drewN m) :
  Calls Tryd.prog 30 #[v, .int .i64 i] w fun e w' => e = .returned (.int .u64 (bits .or .u64 ((X q.toNat : Int) / 2 ^ r.toNat : Int) (IntKind.u64.wrap ((X (q + 1).toNat : Int) * 2 ^ (64 - r).toNat)))) ∧ ∃ k, w' = w.drewN k := by
 have K1 := Lib.hid k1
 clear k1
 have Kq := Lib.hid hq
 have Kr := Lib.hid hr
 clear hq hr
 go_enter Tryd.func30, Tryd.ntmps30
 go_wp2_with fail
 rw [Kq.out, Kr.out]
 clear Kq Kr hi h0
 have e1 : IntKind.i64.wrap (q + 1) = q + 1 := IntWalk.i64_in _ (by omega)
 have e2 : IntKind.i64.wrap (64 - r) = 64 - r := IntWalk.i64_in _ (by omega)
 have e3 : ¬ r < 0 := by omega
 have e4 : ¬ 64 - r < 0 := by omega
 have e5 : 0 ≤ q + 1 := by omega
 have e6 : q + 1 ≤ 60000 := by omega
 have e7 : q ≤ 60000 := by omega
 go_quiet (first | exact Calls.quiet_of (K1.out _ _ hq0 e7) | exact Calls.quiet_of (K1.out _ _ e5 e6))
 go_wp2_with fail
 go_ret
 exact ⟨rfl, _, rfl⟩
set_option maxHeartbeats 1000000 in
theorem take_core (g n c : Nat) (qn rn x : Nat) (i : Int) (h0 : 0 ≤ i) (hi : i ≤ 60000) (hq : i / 64 = (qn : Int)) (hr : i % 64 = (rn : Int)) (hqn : qn < n) (hn : n ≤ 1000000) (hr1 : rn < 64) (w : World)
  (hc : w.cell? ⟨g, qn, none⟩ = some (.int .u64 (x : Int))) (hz : w.frozen? ⟨g, qn, none⟩ = false) :
  Calls Tryd.prog 27 #[.slice (some ⟨g, 0, none⟩) n c, .int .i64 i] w fun e w' => e = .returned (.tuple #[]) ∧ ∃ k, w' = (w.drewN k).setCell ⟨g, qn, none⟩ (.int .u64 (bits .or .u64 (x : Int) (IntKind.u64.wrap (2 ^ rn)))) := by
 have Kq := Lib.hid hq
 have Kr := Lib.hid hr
 clear hq hr
 have q1 : (0 : Int) ≤ (qn : Int) := by omega
 have q2 : (qn : Int) < (n : Int) := by omega
 have q3 : ((qn : Int)).toNat = qn := by omega
 have q4 : ¬ (rn : Int) < 0 := by omega
 have e1 : IntKind.i64.wrap (i.tdiv 64) = (qn : Int) := by rw [IntWalk.i64_quo i 64 ⟨h0, by omega, by omega⟩]; exact Kq.out
 have e2 : IntKind.i64.wrap (i.tmod 64) = (rn : Int) := by rw [Int.tmod_eq_emod_of_nonneg h0, Kr.out]; exact IntWalk.i64_in _ (by omega)
 have e3 : i.tmod 64 = (rn : Int) := by rw [Int.tmod_eq_emod_of_nonneg h0, Kr.out]
 have e4 : min rn 64 = rn := by omega
 clear Kq Kr hi h0
 go_enter Tryd.func27, Tryd.ntmps27
 go_still_tail 10, (by kernel_rfl)
 change wpList _ _ _ _ _ w.drew
 go_wp2_with fail
 go_end0
 exact ⟨rfl, 1, rfl⟩
end Go.Proofs.YtjcijffhcmbhnaaDoor
