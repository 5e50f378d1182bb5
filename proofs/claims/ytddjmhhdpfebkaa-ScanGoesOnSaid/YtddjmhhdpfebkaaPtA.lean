import Derived.Test.YtddjmhhdpfebkaaLaw
import Derived.Test.YtddjmhhdpfebkaaOps3
import Derived.BigQuiet
import Derived.Deep.QuietTactic
import Derived.Lib.Hide
import Derived.Great.BuildSlice
import Derived.Laws.Rows
import Derived.Deep.WholeRow
import Derived.Deep.MidRow
import Derived.Laws.NewBlocks
import Derived.Laws.IdiomStrings
import Derived.WalkLawsBesides
import Derived.Outline
import Derived.IntWalk
import Derived.Deep.LoopGhost
import Derived.Lib.Strings
namespace Go.Proofs.Ytddjmhhdpfebkaa
set_option maxRecDepth 100000
open Go.RowKit
set_option linter.unusedVariables false
set_option linter.unusedSimpArgs false
def str (l : List UInt8) : ByteArray := ⟨l.toArray⟩
def bl (s : ByteArray) : List UInt8 := s.data.toList
theorem bl_length (s : ByteArray) : (bl s).length = s.size := by simp [bl]
theorem bl_str (l : List UInt8) : bl (str l) = l := rfl
theorem str_bl (s : ByteArray) : str (bl s) = s := rfl
theorem str_size (l : List UInt8) : (str l).size = l.length := by rw [← bl_length, bl_str]
theorem bl_drop (s : ByteArray) (k : Nat) (h : k < s.size) : (bl s).drop k = s[k] :: (bl s).drop (k + 1) := by
 unfold bl
 rw [List.drop_eq_getElem_cons (by simpa using h)]; rfl
theorem bl_take (s : ByteArray) (k : Nat) (h : k < s.size) : (bl s).take (k + 1) = (bl s).take k ++ [s[k]] := by
 unfold bl
 rw [List.take_succ_eq_append_getElem (by simpa using h)]; rfl
theorem bl_ext (s : ByteArray) (a b : Nat) : bl (s.extract a b) = ((bl s).drop a).take (b - a) := by
 unfold bl; exact Lib.extract_data s a b
theorem bl_end (s : ByteArray) (a : Nat) : bl (s.extract a s.size) = (bl s).drop a := by
 rw [bl_ext, List.take_of_length_le (by simp [bl_length])]
theorem bl_append (s t : ByteArray) : bl (s ++ t) = bl s ++ bl t := by
 simp [bl, ByteArray.data_append]
theorem toList_eq (s : ByteArray) : s.toList = bl s := Lib.toList_data s
theorem bl_inj {s t : ByteArray} (h : bl s = bl t) : s = t := by
 rw [← str_bl s, ← str_bl t, h]
theorem u8_eq {x c : UInt8} : x = c ↔ x.toNat = c.toNat := UInt8.toNat_inj.symm
namespace Pt
def fS (S : List UInt8) (j : Nat) : Bool := S.any fun x => x.toNat == j
def run (F : Nat → Bool) : List UInt8 → Nat
 | [] => 0
 | c :: r => if F c.toNat = true then run F r + 1 else 0
def len (T S : List UInt8) (m : Bool) (s : List UInt8) : Nat :=
 if T = [] then run (fS S) (if m = true then s else s.take 1) else if T.isPrefixOf s = true then T.length else 0
def lenAt (T S : List UInt8) (m : Bool) (s : List UInt8) (a : Int) : Nat := if a < 0 ∨ (s.length : Int) ≤ a then 0 else len T S m (s.drop a.toNat)
def is (T S : List UInt8) (m : Bool) (s : List UInt8) : Bool := decide (s ≠ []) && decide (len T S m s = s.length)
def meets (T S : List UInt8) (m : Bool) (T' S' : List UInt8) (m' : Bool) : Bool :=
 if T = [] then if T' = [] then (List.range 256).any fun j => fS S j && fS S' j else is T S m T' else is T' S' m' T
def firstS (F : Nat → Bool) : List UInt8 := match (List.range 256).find? F with
 | none => []
 | some j => [UInt8.ofNat j]
def ex (T S : List UInt8) : List UInt8 := if T = [] then firstS (fS S) else T
theorem fS_nil (j : Nat) : fS [] j = false := rfl
theorem fS_snoc (S : List UInt8) (c : UInt8) (j : Nat) : fS (S ++ [c]) j = (fS S j || c.toNat == j) := by simp [fS]
theorem fS_append (S S' : List UInt8) (j : Nat) : fS (S ++ S') j = (fS S j || fS S' j) := by simp [fS]
theorem run_le (F : Nat → Bool) : ∀ s : List UInt8, run F s ≤ s.length
 | [] => Nat.le_refl _
 | c :: r => by
  unfold run
  split
  ·have := run_le F r; simp; omega
  ·omega
end Pt
def setF (F : Nat → Value) (i : Nat) (v : Value) : Nat → Value := fun j => if j = i then v else F j
theorem map_get {n : Nat} (F : Nat → Value) {j : Nat} (hj : j < n) : (((List.range n).map F).toArray)[j]? = some (F j) := by simp [hj]
theorem map_set {n : Nat} (F : Nat → Value) (i : Nat) (v : Value) : (((List.range n).map F).toArray).setIfInBounds i v = ((List.range n).map (setF F i v)).toArray := by
 apply Array.ext_getElem?
 intro j
 rw [Array.getElem?_setIfInBounds]
 by_cases hj : j < n
 ·rw [map_get (setF F i v) hj]
  by_cases e : i = j
  ·subst e; simp [hj, setF]
  ·rw [if_neg e, map_get F hj]; simp [setF, Ne.symm e]
 ·have h1 : ∀ K : Nat → Value, (((List.range n).map K).toArray)[j]? = none := fun K => by apply Array.getElem?_eq_none; simp; omega
  rw [h1 F, h1]
  split
  ·simp; omega
  ·rfl
theorem map_same {n : Nat} {F G : Nat → Value} (h : ∀ j, j < n → F j = G j) : ((List.range n).map F).toArray = ((List.range n).map G).toArray := by
 congr 1
 apply List.map_congr_left
 intro j hj
 exact h j (List.mem_range.1 hj)
def hasCells (F : Nat → Bool) : List Value := (List.range 256).map fun j => .bool (F j)
theorem hasCells_length (F : Nat → Bool) : (hasCells F).length = 256 := by simp [hasCells]
theorem hasCells_size (F : Nat → Bool) : (hasCells F).toArray.size = 256 := by simp [hasCells]
theorem hasCells_get (F : Nat → Bool) {j : Nat} (h : j < 256) : (hasCells F).toArray[j]? = some (.bool (F j)) := by simp [hasCells, h]
theorem hasCells_one (F : Nat → Bool) : (hasCells F).all (·.oneCell') = true := by
 rw [List.all_eq_true]
 intro x hx
 obtain ⟨j, _, rfl⟩ := List.mem_map.1 hx
 rfl
theorem hasCells_same {F G : Nat → Bool} (h : ∀ j, j < 256 → F j = G j) : hasCells F = hasCells G := by
 unfold hasCells
 apply List.map_congr_left
 intro j hj
 rw [h j (List.mem_range.1 hj)]
theorem hasCells_set (F : Nat → Bool) (i : Nat) (v : Bool) : (hasCells F).toArray.setIfInBounds i (.bool v) = (hasCells fun j => if j = i then v else F j).toArray := by
 unfold hasCells
 rw [map_set]
 apply map_same
 intro j _
 unfold setF
 by_cases e : j = i
 ·simp [e]
 ·simp [e]
theorem Try.sizeSet : (Try.prog.info? 66).map (·.size) = some 256 := by kernel_rfl
theorem sizeSet' (F : Nat → Bool) : (Try.prog.info? 66).map (·.size) = some (hasCells F).length := by rw [hasCells_length]; exact Try.sizeSet
theorem At.range {w : World} {b : Nat} {t : TypeId} {F : Nat → Bool} (h : At w b t (hasCells F).toArray) : w.rangeAt b 0 (hasCells F) := by
 intro j v hv
 rw [Nat.zero_add, h.cell]
 simpa using hv
def setV (F : Nat → Bool) : Value := .agg (hasCells F).toArray
theorem zero_set (w : World) : (zeroValue 66).run Try.prog w = .ok (.agg (hasCells fun _ => false).toArray) w := by kernel_rfl
theorem index_set (F : Nat → Bool) (k : Nat) (hk : k < 256) (w : World) : (Instr.index 66 (.agg (hasCells F).toArray) (.int .i64 (k : Int))).run Try.prog w = .ok (.bool (F k)) w := by
 have h2 : (0 : Int) ≤ (k : Int) ∧ (k : Int) < 256 := by omega
 have h3 : (hasCells F)[k]? = some (.bool (F k)) := by simp [hasCells, hk]
 simp [Instr.index, run_underlying Try.underlying66, asIntOf, hk, part, Try.isAgg4, Try.sizeOf4, h3]
theorem wpList_store_at {P : Program} {ops : Array Oper} {rest : List Oper} {o : Oper} {a : Act} {w : World} {Q : Exit → Act → World → Prop} (hgd : o.guard = none) (ty : TypeId) (x y : Operand) (ho : o.op = .store ty x y)
  (hd : o.dst = none) (g : Nat) (t : TypeId) (old : Array Value) (new : List Value) (hx : a.eval x = .pointer (some ⟨g, 0, none⟩)) (hy : a.eval y = .agg new.toArray) (hg : At w g t old) (n : Nat) (hi : (P.info? ty).map (·.size) = some n)
  (hn : new.length = n) (hold : old.size = n) (h1 : new.all (·.oneCell') = true)
  (h : ∀ w', At w' g t new.toArray → w.grownBy w' (some g) → wpList P ops Q rest a w') : wpList P ops Q (o :: rest) a w :=
 wpList_store_rowTo hgd ty x y ho hd g new.toArray hx hy t old hg (by simpa [hn] using hi) (by simpa [hn] using hold) (by simpa using h1)
  (h _ (setRow_heap w g old new.toArray t (0, 0) hg) ⟨rfl, rfl, rfl, by simp, fun j _ hj => setRow_other w g j _ (fun e => hj (by simp [e]))⟩)
theorem below_grown {w w1 w2 : World} {g : Nat} {B : Nat} (h : Below B w w1) (k : w1.grownBy w2 (some g)) (hB : B ≤ w1.heap.size) (hg : B ≤ g) : Below B w w2 :=
 h.grown k hB (fun x hx => by injection hx with hx; omega)
set_option maxHeartbeats 1000000 in
theorem of_any (s : ByteArray) (w : World) (hs : s.size ≤ 9223372036854775807) :
  Calls Try.prog 28 #[.string s] w fun e w' => e = .returned (setV (Pt.fS (bl s))) ∧ Below w.heap.size w w' := by
 have hA1 := (At.new w 66 (hasCells fun _ => false).toArray).alloc (.cells (hasCells fun _ => false).toArray 66)
 have hA2 := At.new (w.alloc (.cells (hasCells fun _ => false).toArray 66)) 66 (hasCells fun _ => false).toArray
 have hB := ((Below.refl w.heap.size w).alloc (Nat.le_refl _) (.cells (hasCells fun _ => false).toArray 66)).alloc (by simp) (.cells (hasCells fun _ => false).toArray 66)
 rw [World.size_alloc] at hA2
 obtain ⟨W, hW⟩ : ∃ W, W = (w.alloc (.cells (hasCells fun _ => false).toArray 66)).alloc (.cells (hasCells fun _ => false).toArray 66) := ⟨_, rfl⟩
 rw [← hW] at hA1 hA2 hB
 have KA1 := Lib.hid hA1
 have KA2 := Lib.hid hA2
 have KB := Lib.hid hB
 have KW := Lib.hid hW
 have hz := zero_set
 clear hA1 hA2 hB hW
 go_enter Try.func28, Try.ntmps28
 go_wp2_with fail
 rw [← KW.out]
 go_loopw [7] (fun i wr => ∃ k : Nat, k ≤ s.size ∧ i = .int .i64 (k : Int) ∧ At wr w.heap.size 66 (hasCells fun _ => false).toArray ∧ At wr (w.heap.size + 1) 66 (hasCells (Pt.fS ((bl s).take k))).toArray ∧ Below w.heap.size w wr) (fun i _ => s.size - (intOf i).toNat)
 case atStart => exact ⟨0, by omega, rfl, KA1.out, KA2.out, KB.out⟩
 case round =>
  obtain ⟨k, hk, rfl, ha, hb, hbe⟩ := hrel
  have HA := Lib.hid ha
  have HB := Lib.hid hb
  have HBE := Lib.hid hbe
  have hsz := hbe.size
  have hlt1 := hb.lt
  clear ha hb hbe
  by_cases hlt : k < s.size
  ·have hk0 : (0 : Int) ≤ (k : Int) := by omega
   have hki : (k : Int) < (s.size : Int) := by omega
   have h256 := s[k].toNat_lt
   have cc : wr.cell? ⟨w.heap.size + 1, s[k].toNat, none⟩ = some (.bool (Pt.fS ((bl s).take k) s[k].toNat)) := by
    rw [HB.out.cell]; exact hasCells_get _ (by omega)
   have f0 := HB.out.frozen
   have HT := Lib.hid (bl_take s k hlt)
   go_wp2_with fail
   go_roundw
   case rel =>
    refine ⟨k + 1, by omega, by go_num, HA.out.far (by simp) _, ?_, HBE.out.setCell (by simp) _⟩
    have h := HB.out.set s[k].toNat (.bool true)
    rw [hasCells_set] at h
    rw [HT.out]
    rwa [hasCells_same (G := Pt.fS ((bl s).take k ++ [s[k]]))] at h
    intro j _
    rw [Pt.fS_snoc]
    by_cases e : j = s[k].toNat
    ·rw [if_pos e, e]; simp
    ·rw [if_neg e]; simp [Ne.symm e]
   case measure => simp [intOf]; omega
  ·obtain rfl : k = s.size := by omega
   have e : (bl s).take s.size = bl s := by rw [← bl_length, List.take_length]
   rw [e] at HB
   go_wp2_with (first
    | (refine wpList_load_mid rfl 66 _ rfl (w.heap.size + 1) 0 rfl (hasCells (Pt.fS (bl s))) _ HB.out.range Try.underlying66 rfl (sizeSet' _) ?_)
    | (refine wpList_store_at rfl _ _ _ rfl rfl w.heap.size _ _ (hasCells (Pt.fS (bl s))) rfl rfl HA.out 256 Try.sizeSet (hasCells_length _) (hasCells_size _) (hasCells_one _) ?_; intro w2 hat hg))
   exact bodyPost_ret (results_cell_row rfl _ _ w.heap.size _ _ (0, 0) _ rfl hat Try.underlying66 rfl (sizeSet' _)) rfl ⟨rfl, below_grown HBE.out hg hsz (Nat.le_refl _)⟩
theorem Pt.run_drop {F : Nat → Bool} {s : ByteArray} {k : Nat} (h : k < s.size) : Pt.run F ((bl s).drop k) = if F s[k].toNat = true then Pt.run F ((bl s).drop (k + 1)) + 1 else 0 := by
 rw [bl_drop s k h]; rfl
theorem run_any (F : Nat → Bool) (s : ByteArray) (w : World) (hs : s.size ≤ 9223372036854775807) :
  Calls Try.prog 29 #[setV F, .string s] w fun e w' => e = .returned (.int .i64 (Pt.run F (bl s) : Int)) ∧ Below w.heap.size w w' := by
 have KA := Lib.hid (At.new w 66 (hasCells F).toArray)
 have KB := Lib.hid ((Below.refl w.heap.size w).alloc (Nat.le_refl _) (.cells (hasCells F).toArray 66))
 obtain ⟨W, hW⟩ : ∃ W, W = w.alloc (.cells (hasCells F).toArray 66) := ⟨_, rfl⟩
 rw [← hW] at KA KB
 have KW := Lib.hid hW
 obtain ⟨g, hg⟩ : ∃ g, g = w.heap.size := ⟨_, rfl⟩
 have KG := Lib.hid hg
 rw [← hg] at KA KB
 clear hW hg
 unfold setV
 go_enter Try.func29, Try.ntmps29
 go_wp2_with fail
 rw [← KW.out, ← KG.out]
 go_loopw [5] (fun i wr => ∃ k : Nat, k ≤ s.size ∧ i = .int .i64 (k : Int) ∧ wr = W ∧ Pt.run F (bl s) = k + Pt.run F ((bl s).drop k)) (fun i _ => s.size - (intOf i).toNat)
 case atStart => exact ⟨0, by omega, rfl, rfl, by simp⟩
 case round =>
  obtain ⟨k, hk, rfl, rfl, hr⟩ := hrel
  by_cases hlt : k < s.size
  ·have hk0 : (0 : Int) ≤ (k : Int) := by omega
   have hki : (k : Int) < (s.size : Int) := by omega
   have h256 := s[k].toNat_lt
   have cc : wr.cell? ⟨g, s[k].toNat, none⟩ = some (.bool (F s[k].toNat)) := by
    rw [KA.out.cell]; exact hasCells_get _ (by omega)
   rw [Pt.run_drop hlt] at hr
   cases hF : F s[k].toNat with
   | true =>
    rw [hF] at cc hr
    have HR := Lib.hid hr
    clear hr hF
    go_wp2_with fail
    go_roundw
    case rel => exact ⟨k + 1, by omega, by go_num, trivial, by rw [HR.out, if_pos rfl]; omega⟩
    case measure => simp [intOf]; omega
   | false =>
    rw [hF] at cc hr
    have hr : Pt.run F (bl s) = k := by rw [hr]; rfl
    have HR := Lib.hid hr
    clear hr hF
    go_wp2_with fail
    go_ret
    exact ⟨by rw [HR.out]; rfl, by have := KB.out; rwa [KG.out] at this⟩
  ·obtain rfl : k = s.size := by omega
   have hd : Pt.run F ((bl s).drop s.size) = 0 := by
    rw [List.drop_of_length_le (by rw [bl_length]; omega)]; rfl
   rw [hd] at hr
   have HR := Lib.hid hr
   clear hr hd
   go_wp2_with fail
   go_ret
   exact ⟨by rw [HR.out]; rfl, by have := KB.out; rwa [KG.out] at this⟩
theorem prefix_any (s p : ByteArray) (w : World) (hs : s.size ≤ 9223372036854775807) (hp : p.size ≤ 9223372036854775807) :
  Calls Try.prog 27 #[.string s, .string p] w fun e w' => e = .returned (.bool ((bl p).isPrefixOf (bl s))) ∧ w = w' := by
 have key : ∀ w, Calls Try.prog 30 #[.string s, .string p] w fun e w' => e = .returned (.bool ((bl p).isPrefixOf (bl s))) ∧ w = w' := by
  intro w
  by_cases h : p.size ≤ s.size
  ·have h1 : (p.size : Int) ≤ (s.size : Int) := by omega
   have h0 : (0 : Int) ≤ (p.size : Int) := by omega
   have hb : ((s.extract 0 p.size).toList == p.toList) = (bl p).isPrefixOf (bl s) := by
    rw [toList_eq, toList_eq, bl_ext, Bool.eq_iff_iff, beq_iff_eq, List.isPrefixOf_iff_prefix, List.prefix_iff_eq_take, bl_length, List.drop_zero, Nat.sub_zero]
    exact eq_comm
   obtain ⟨b, hb2⟩ : ∃ b, (bl p).isPrefixOf (bl s) = b := ⟨_, rfl⟩
   rw [hb2] at hb ⊢
   clear hb2
   go_enter Try.func30, Try.ntmps30
   go_wp2_with fail
   go_ret
   exact ⟨rfl, rfl⟩
  ·have h1 : ¬ (p.size : Int) ≤ (s.size : Int) := by omega
   have hb : (bl p).isPrefixOf (bl s) = false := by
    rw [← Bool.not_eq_true, List.isPrefixOf_iff_prefix]
    intro hh
    have := hh.length_le
    rw [bl_length, bl_length] at this
    omega
   rw [hb]
   clear hb
   go_enter Try.func30, Try.ntmps30
   go_wp2_with fail
   go_ret
   exact ⟨rfl, rfl⟩
 go_enter Try.func27, Try.ntmps27
 go_wp2_with fail
 refine (key _).mono ?_
 rintro e w' ⟨rfl, rfl⟩
 go_wp2_with fail
 go_ret
 exact ⟨rfl, rfl⟩
end Go.Proofs.Ytddjmhhdpfebkaa
