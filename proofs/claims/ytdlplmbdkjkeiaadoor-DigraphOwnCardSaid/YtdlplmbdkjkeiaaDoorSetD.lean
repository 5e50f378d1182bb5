import Derived.Test.YtdlplmbdkjkeiaaDoorSetC
import Derived.RangeFuncNested
import Derived.RangeFuncBound
import Derived.RangeFuncCalls
import Derived.RangeFuncLeaves
import Derived.RangeFuncBox
import Derived.Shelf.Abstract
import Derived.Shelf.RegionOpen
import Derived.OwnWalkIn
import Derived.TacticsInMore
import Derived.LoopNIn
import Derived.LoopIn
namespace Go.Proofs.YtdlplmbdkjkeiaaDoor
set_option maxRecDepth 100000
open Go.RowKit Go.Shelf
open BitKit
set_option linter.unusedVariables false
set_option linter.unusedSimpArgs false
def Tab (w : World) : Prop := ∀ j, j < Lib.deBruijn64tab.length → w.cell? ⟨0, j, none⟩ = some (.int .u8 (Lib.deBruijn64tab.getD j 0 : Nat))
theorem tz_key (x a : Nat) (hx : x < 18446744073709551616) (hx0 : x ≠ 0) (hlow : x &&& (18446744073709551616 - x) = a) :
  IntKind.u64.wrap (bits BinOp.and IntKind.u64 (x : Int) (IntKind.u64.wrap (-(x : Int))) * 285870213051353865) / 288230376151711744 = ((a * 285870213051353865 % 18446744073709551616 / 288230376151711744 : Nat) : Int) := by
 have e1 : IntKind.u64.wrap (-(x : Int)) = ((18446744073709551616 - x : Nat) : Int) := by rw [IntKind.wrap_u64]; omega
 rw [e1, u64_and_nat x _ hx (by omega), hlow, IntKind.wrap_u64]
 omega
set_option maxHeartbeats 1000000 in
theorem tz_core (x k idx : Nat) (w : World) (hz : ((x : Int) == 0) = false)
  (key : IntKind.u64.wrap (bits BinOp.and IntKind.u64 (x : Int) (IntKind.u64.wrap (-(x : Int))) * 285870213051353865) / 288230376151711744 = (idx : Int))
  (hi : idx < 64) (hk : k < 64) (hcell : w.cell? ⟨0, idx, none⟩ = some (.int .u8 (k : Int))) :
  Calls Tryd.prog 57 #[.int .u64 (x : Int)] w fun e w' => e = .returned (.int .i64 (k : Int)) ∧ w' = w := by
 go_enter Tryd.func57, Tryd.ntmps57
 go_wp2_with fail
 go_ret
 exact ⟨rfl, rfl⟩
theorem tz_any (x : Nat) (hx : x < 18446744073709551616) (hx0 : x ≠ 0) (w : World) (hT : Tab w) :
  Calls Tryd.prog 57 #[.int .u64 (x : Int)] w fun e w' => e = .returned (.int .i64 ((Lib.ctz 64 x : Nat) : Int)) ∧ w' = w := by
 obtain ⟨hlow, hk⟩ := Lib.lowest_bit 64 x hx0 hx
 obtain ⟨hi, htab⟩ := Lib.deBruijn64_at _ hk
 have hcell := hT _ hi
 rw [htab] at hcell
 exact tz_core x _ _ w (by simp; omega) (tz_key x _ hx hx0 hlow) hi hk hcell
theorem wpListIn_load_mid {F : Fence} {n : Nat} {P : Program} (w : World) {ops : Array Oper} {rest : List Oper} {o : Oper} {a : Act} {Q : Exit → Act → World → Prop}
  (hg : o.guard = none) (ty : TypeId) (x : Operand) (ho : o.op = .load ty x) (b off : Nat) (hx : a.eval x = .pointer (some ⟨b, off, none⟩)) (cs : List Value) (d : TypeDesc) (hc : w.rangeAt b off cs)
  (hu : P.underlying ty = some d) (hd : d.isRow = true) (hi : (P.info? ty).map (·.size) = some cs.length) (h : wpListIn F n P ops Q rest (a.put o.dst (.agg cs.toArray)) w) :
  wpListIn F n P ops Q (o :: rest) a w := by
 refine wpListIn_plain hg fun K hK => ?_
 unfold Oper.wpIn
 refine ⟨?_, ?_⟩
 ·simp [Oper.about, ho]
 ·rw [Oper.semAt_plain F _ _ (by rw [ho]; intro c hc'; cases hc')]
  unfold execOp
  simp only [ho, hx, Instr.loadAt, Instr.sureAddr, Sem.run_bind, Sem.run_pure, Result.andThen_ok, run_loadVar_mid w b off ty cs d hc hu hd hi]
  exact hK _ _ h
abbrev Num := { x : Nat // x < 1024 }
abbrev encN (x : Num) : Array Value := #[.int .i64 ((x.1 : Nat) : Int)]
def nums (ys : List Num) : List Nat := ys.map (·.1)
theorem nums_snoc (ys : List Num) (x : Num) : nums (ys ++ [x]) = nums ys ++ [x.1] := by simp [nums]
theorem nums_length (ys : List Num) : (nums ys).length = ys.length := by simp [nums]
theorem words_range {w : World} {B : Nat} {S : Nat → Bool} (h : At w B 62 (wordsL S).toArray) : w.rangeAt B 0 (wordsL S) := by
 intro j v hv
 rw [Nat.zero_add, h.cell, ← hv]; simp
theorem mem_word (S : Nat → Bool) (k : Nat) : mem S (64 * (k + 1)) = mem S (64 * k) ++ (mem (Nat.testBit (word S k)) 64).map (64 * k + ·) := by
 have h1 : mem (fun i => S (64 * k + i)) 64 = mem (Nat.testBit (word S k)) 64 := mem_congr 64 fun i hi => (word_bit S k i hi).symm
 rw [← h1, Nat.mul_add, Nat.mul_one, mem_add]
theorem mem_prefix (S : Nat → Bool) {a b : Nat} (h : a ≤ b) : mem S a <+: mem S b := by
 obtain ⟨c, rfl⟩ : ∃ c, b = a + c := ⟨b - a, by omega⟩
 rw [mem_add]
 exact List.prefix_append _ _
theorem mem_upto (S : Nat → Bool) {k : Nat} (hk : k ≤ 16) : mem S (64 * k) <+: mem S 1024 := mem_prefix S (by omega)
def Told (S : Nat → Bool) (k : Nat) (pre : List Num) (x : Nat) : Prop := x < 18446744073709551616 ∧ nums pre ++ (mem (Nat.testBit x) 64).map (64 * k + ·) = mem S (64 * (k + 1))
theorem told_zero {S : Nat → Bool} {k : Nat} {pre : List Num} (h : Told S k pre 0) : nums pre = mem S (64 * (k + 1)) := by
 have := h.2
 rw [mem_zero] at this
 simpa using this
theorem told_next {S : Nat → Bool} {k : Nat} {pre : List Num} {x : Nat} (h : Told S k pre x) (h0 : x ≠ 0) (hk : k < 16) :
  ∃ y : Num, y.1 = 64 * k + Lib.ctz 64 x ∧ Told S k (pre ++ [y]) (x &&& (x - 1)) ∧ pre.length < cnt S 1024 ∧ nums (pre ++ [y]) <+: mem S 1024 := by
 obtain ⟨hx, he⟩ := h
 obtain ⟨hc, _, _, _, _⟩ := ctz_spec h0 (show x < 2 ^ 64 from hx)
 have hm := mem_low h0 (show x < 2 ^ 64 from hx)
 have he' := he
 rw [hm, List.map_cons] at he
 refine ⟨⟨64 * k + Lib.ctz 64 x, by omega⟩, rfl, ⟨Nat.lt_of_le_of_lt Nat.and_le_left hx, ?_⟩, ?_, ?_⟩
 ·rw [nums_snoc, ← he]; simp
 ·have h1 := mem_upto S (k := k + 1) (by omega)
  have h2 := h1.length_le
  rw [← he, mem_length] at h2
  simp [nums_length] at h2
  omega
 ·refine List.IsPrefix.trans ?_ (mem_upto S (k := k + 1) (by omega))
  rw [nums_snoc, ← he]
  refine ⟨(mem (Nat.testBit (x &&& (x - 1))) 64).map (64 * k + ·), by simp⟩
theorem told_word {S : Nat → Bool} {k : Nat} {pre : List Num} (h : nums pre = mem S (64 * k)) : Told S k pre (word S k) := ⟨word_lt S k, by rw [h, mem_word]⟩
theorem Tab.below {n₀ : Nat} {w w' : World} (h : Tab w) (hb : Below n₀ w w') (h0 : 0 < n₀) : Tab w' := fun j hj => (hb.cell (p := ⟨0, j, none⟩) h0).trans (h j hj)
attribute [local go_sem] Oper.semAt_some
set_option maxRecDepth 100000 in
set_option maxHeartbeats 4000000 in
theorem each1_in (n : Nat) (hn : 1 ≤ n) (l Bn n₀ : Nat) (h0 : 0 < n₀) (S : Nat → Bool) (J Jx : List Num → World → Prop)
  (hY : ∀ pre x W, J pre W → pre.length < cnt S 1024 → YieldAt Fence.wide (n - 1) Tryd.prog l (encN x) W fun e W' =>
   (e = .returned (.bool true) ∧ J (pre ++ [x]) W' ∧ Below n₀ W W') ∨ (e = .returned (.bool false) ∧ Jx (pre ++ [x]) W'))
  (W : World) (hB : At W Bn 62 (wordsL S).toArray) (hT : Tab W) (hJ : J [] W) :
  CallsIn Fence.wide n Tryd.prog 56 #[.func (.yield l) #[] #[], .pointer (some ⟨Bn, 0, none⟩)] W fun e W' => (∃ v, e = .returned v) ∧
   ((∃ ys, nums ys = mem S 1024 ∧ J ys W') ∨ (∃ pre, nums pre <+: mem S 1024 ∧ Jx pre W')) := by
 have hr := words_range hB
 clear hB
 refine callsIn_of_wp Tryd.func56 rfl trivial ?_ rfl
 simp only [Tryd.ntmps56, List.size_toArray, List.length_cons, List.length_nil, Nat.reduceAdd, Nat.reduceSub, Array.replicate_succ, Array.replicate_zero, List.push_toArray, List.append_toArray, List.nil_append, List.cons_append]
 gi_wp2_with (refine wpListIn_load_mid _ rfl 62 _ rfl Bn 0 rfl (wordsL S) _ hr Tryd.underlying62 rfl (size_words' S) ?_)
 gi_loopw [6] (fun i wr => ∃ (k : Nat) (pre : List Num), k ≤ 16 ∧ i = .int .i64 (k : Int) ∧ nums pre = mem S (64 * k) ∧ Tab wr ∧ J pre wr) (fun i _ => 16 - (intOf i).toNat)
 case atStart => exact ⟨0, [], by omega, rfl, rfl, hT, hJ⟩
 case round =>
  obtain ⟨k, pre, hk, rfl, hpre, hTr, hJr⟩ := hrel
  have HP := Lib.hid hpre
  have HT := Lib.hid hTr
  have HJ := Lib.hid hJr
  clear hpre hTr hJr
  by_cases hlt : k < 16
  ·have hi := index_words S k hlt
   have hi2 : (k : Int) < 16 := by omega
   gi_wp2_with fail
   gi_loopw [4] (fun v w4 => ∃ (x : Nat) (pr : List Num), v = .int .u64 (x : Int) ∧ Told S k pr x ∧ Tab w4 ∧ J pr w4) (fun v _ => (intOf v).toNat)
   case atStart => exact ⟨word S k, pre, rfl, told_word HP.out, HT.out, HJ.out⟩
   case round =>
    obtain ⟨x, pr, rfl, h1, h2, h3⟩ := hrel
    have H1 := Lib.hid h1
    have H2 := Lib.hid h2
    have H3 := Lib.hid h3
    have hx := h1.1
    clear h1 h2 h3
    by_cases hx0 : x = 0
    ·subst hx0
     gi_wp2_with fail
     go_roundw
     case rel => exact ⟨k + 1, pr, by omega, by go_num, told_zero H1.out, H2.out, H3.out⟩
     case measure => simp [intOf]; omega
    ·obtain ⟨y, hy1, hy2, hy3, hy4⟩ := told_next H1.out hx0 hlt
     obtain ⟨fn, tmps, assign, body, hy, hR⟩ := hY pr y wr H3.out hy3
     have ex : ((y.1 : Nat) : Int) = (k : Int) * 64 + ((Lib.ctz 64 x : Nat) : Int) := by rw [hy1]; omega
     simp only [encN, ex] at hy
     have hz : ((x : Int) != 0) = true := by simp; omega
     have hand : bits .and .u64 (x : Int) ((x : Int) - 1) = ((x &&& (x - 1) : Nat) : Int) := by
      have := u64_and_nat x (x - 1) hx (by omega)
      rwa [show ((x - 1 : Nat) : Int) = (x : Int) - 1 by omega] at this
     have hdown : (x &&& (x - 1)) < x := (ctz_spec hx0 hx).2.2.2.1
     have hpos : 0 < x := by omega
     have hct : Lib.ctz 64 x < 64 := (Lib.lowest_bit 64 x hx0 hx).2
     have hY2 := Lib.hid hy2
     have hY4 := Lib.hid hy4
     clear hy2 hy4
     gi_wp2_with (refine ⟨trivial, ?_⟩; gi_at_call 57; refine (callsIn_wide.2 (tz_any x hx hx0 _ H2.out)).mono ?_; rintro e w5 ⟨rfl, rfl⟩)
     refine hR.mono ?_
     clear hR hy
     rintro e W3 (⟨rfl, hJ3, hk3⟩ | ⟨rfl, hJx3⟩)
     ·have HJ3 := Lib.hid hJ3
      have HT3 := Lib.hid (H2.out.below hk3 h0)
      clear hJ3 hk3
      gi_wp2_with fail
      go_roundw
      case rel => exact ⟨x &&& (x - 1), pr ++ [y], rfl, hY2.out, HT3.out, HJ3.out⟩
      case measure => simpa [intOf] using hdown
     ·have HX := Lib.hid hJx3
      clear hJx3
      gi_wp2_with fail
      refine bodyPost_ret (results_none rfl _ _ _) rfl ?_
      exact ⟨⟨_, rfl⟩, .inr ⟨pr ++ [y], hY4.out, HX.out⟩⟩
  ·obtain rfl : k = 16 := by omega
   gi_wp2_with fail
   go_end0
   exact ⟨⟨_, rfl⟩, .inl ⟨pre, HP.out, HJ.out⟩⟩
end Go.Proofs.YtdlplmbdkjkeiaaDoor
