import Derived.Test.YtjcijffhcmbhnaaDoorTbA
namespace Go.Proofs.YtjcijffhcmbhnaaDoor
set_option maxRecDepth 100000
open Go.RowKit
set_option linter.unusedVariables false
set_option linter.unusedSimpArgs false
namespace Tb
def cols (l : List Int) : List Nat := (List.range l.length).filter fun c => l.getD c 0 != 0
def colsTo (l : List Int) (k : Nat) : List Nat := (List.range k).filter fun c => l.getD c 0 != 0
theorem colsTo_succ (l : List Int) (k : Nat) : colsTo l (k + 1) = if l.getD k 0 = 0 then colsTo l k else colsTo l k ++ [k] := by
 unfold colsTo
 rw [List.range_succ, List.filter_append]
 by_cases h : l.getD k 0 = 0
 ·rw [if_pos h]
  have : (l.getD k 0 != 0) = false := by rw [h]; rfl
  simp only [List.filter_cons, this, List.filter_nil]
  simp
 ·rw [if_neg h]
  have : (l.getD k 0 != 0) = true := bne_iff_ne.2 h
  simp only [List.filter_cons, this, List.filter_nil]
  simp
theorem colsTo_le (l : List Int) (k : Nat) : (colsTo l k).length ≤ k := by
 have := List.length_filter_le (fun c => l.getD c 0 != 0) (List.range k)
 rwa [List.length_range] at this
theorem mem_cols {l : List Int} {c : Nat} : c ∈ cols l ↔ l.getD c 0 ≠ 0 := by
 unfold cols
 rw [List.mem_filter, List.mem_range, bne_iff_ne]
 exact ⟨fun h => h.2, fun h => ⟨getD_in h, h⟩⟩
theorem colsTo_length (l : List Int) : ∀ k, (colsTo l k).length = BitKit.cnt (fun i => l.getD i 0 != 0) k
 | 0 => rfl
 | k + 1 => by
  rw [colsTo_succ, BitKit.cnt, ← colsTo_length l k]
  by_cases h : l.getD k 0 = 0
  ·rw [if_pos h]
   have : (l.getD k 0 != 0) = false := by rw [h]; rfl
   rw [this]; rfl
  ·rw [if_neg h]
   have : (l.getD k 0 != 0) = true := bne_iff_ne.2 h
   rw [this]; simp
theorem cols_length (l : List Int) : (cols l).length = nz l := colsTo_length l l.length
end Tb
def ints (l : List Nat) : List Int := l.map (fun x : Nat => (x : Int))
theorem ints_length (l : List Nat) : (ints l).length = l.length := by simp [ints]
theorem ints_snoc (l : List Nat) (x : Nat) : ints (l ++ [x]) = ints l ++ [(x : Int)] := by simp [ints]
theorem ints_get {l : List Nat} {i x : Nat} (h : l[i]? = some x) : (ints l)[i]? = some (x : Int) := by simp [ints, h]
theorem ints_small {l : List Nat} (h : ∀ x ∈ l, x ≤ 9223372036854775807) : Small (ints l) := by
 intro x hx
 simp only [ints, List.mem_map] at hx
 obtain ⟨y, hy, rfl⟩ := hx
 have := h y hy
 omega
theorem cut_hi (ao : Option Addr) (n k cap : Nat) (hk : k ≤ cap) (w : World) :
  (Instr.slice 25 (.slice ao n cap) none (some (.int .i64 (k : Int))) none).run Tryd.prog w = .ok (.slice ao k cap) w := by
 have hs : (Go.sizeOf (Tryd.prog.elem 25)).run Tryd.prog w = .ok 1 w := by kernel_rfl
 rw [run_slice_h (P := Tryd.prog) w 25 ao n cap Tryd.underlying25 .i64 (k : Int) (by omega) (by omega), hs]
 cases ao <;> simp [Result.andThen, sliced, Addr.add]
theorem RowIn.take {w : World} {B c : Nat} {A : Option Addr} {l : List Int} (h : RowIn w B (.slice A l.length c) l) (k : Nat) (hk : k ≤ l.length) : RowIn w B (.slice A k c) (l.take k) := by
 obtain ⟨A', c', h1, h2, h3⟩ := h
 simp only [Value.slice.injEq, true_and] at h1
 obtain ⟨rfl, rfl⟩ := h1
 have hl : (l.take k).length = k := by rw [List.length_take]; omega
 have hg : ∀ i, i < k → (l.take k).getD i 0 = l.getD i 0 := fun i hi => by simp [List.getD, List.getElem?_take, hi]
 refine ⟨_, _, by rw [hl], by rw [hl]; omega, ?_⟩
 rw [hl]
 exact ⟨fun i hi => by rw [hg i hi]; exact h3.each i (by omega), fun i hi => by rw [hg i hi]; exact h3.rx i (by omega), by have := h3.len; omega⟩
theorem RowIn.trimmed {w : World} {B c : Nat} {A : Option Addr} {l : List Int} (h : RowIn w B (.slice A l.length c) l) : RowIn w B (.slice A (Tb.trim l).length c) (Tb.trim l) := by
 have := h.take (Tb.ended l) (Tb.ended_le l)
 rw [Tb.trim_length]; exact this
theorem RowIn.nums {w : World} {B c : Nat} {A : Option Addr} {l : List Int} (h : RowIn w B (.slice A l.length c) l) : Nums w B A l.length (fun i => l.getD i 0) := by
 obtain ⟨A', c', h1, h2, h3⟩ := h
 simp only [Value.slice.injEq, true_and] at h1
 obtain ⟨rfl, rfl⟩ := h1
 exact h3
theorem RowIn.cap {w : World} {B c : Nat} {A : Option Addr} {l : List Int} (h : RowIn w B (.slice A l.length c) l) : l.length ≤ c := by
 obtain ⟨A', c', h1, h2, h3⟩ := h
 simp only [Value.slice.injEq, true_and] at h1
 obtain ⟨rfl, rfl⟩ := h1
 exact h2
def Nought (l : List Int) (k : Nat) : Prop := ∀ i, k ≤ i → l.getD i 0 = 0
set_option maxHeartbeats 1000000 in
theorem without_any (A : Option Addr) (c B : Nat) (l : List Int) (w : World) (h : RowIn w B (.slice A l.length c) l) :
  Calls Tryd.prog 20 #[.slice A l.length c] w fun e w' => e = .returned (.slice A (Tb.trim l).length c) ∧ w' = w := by
 have KN := Lib.hid h.nums
 have hlen := h.nums.len
 have hcap := h.cap
 clear h
 go_enter Tryd.func20, Tryd.ntmps20
 go_wp2_with fail
 go_loopg [3] l.length (fun q t3 wr => ∃ k : Nat, t3 = .int .i64 (k : Int) ∧ k ≤ l.length ∧ q = k ∧ Nought l k ∧ wr = w)
 case atStart => exact ⟨l.length, rfl, Nat.le_refl _, rfl, (fun i hi => Tb.getD_out hi), rfl⟩
 case round =>
  obtain ⟨k, rfl, hk, hq, hz, rfl⟩ := hrel
  have Kz := Lib.hid hz
  have Kq := Lib.hid hq
  clear hz hq
  by_cases h0 : 0 < k
  ·have h0I : decide ((0 : Int) < (k : Int)) = true := by simpa using h0
   obtain ⟨x, hx⟩ : ∃ x, l[k - 1]? = some x := ⟨_, List.getElem?_eq_getElem (by omega)⟩
   have hxd : l.getD (k - 1) 0 = x := by rw [List.getD, hx]; rfl
   obtain ⟨b, o, rfl, _, c0⟩ := KN.out.each (k - 1) (by omega)
   rw [hxd] at c0
   have Kx := Lib.hid hxd
   clear hx hxd
   have e1 : ((k : Int) - 1).toNat = k - 1 := by omega
   have e2 : (0 : Int) ≤ (k : Int) - 1 := by omega
   have e3 : (k : Int) - 1 < (l.length : Int) := by omega
   have e4 : (1 : Int) ≤ (k : Int) := by omega
   have e5 : (0 : Int) < (k : Int) := by omega
   cases hb : (x == 0)
   ·have Kb := Lib.hid hb
    go_wp2_with fail
    go_ret
    have he : Tb.Ends l k := ⟨hk, Kz.out, fun _ => by rw [Kx.out]; have := Kb.out; simpa using this⟩
    rw [he.trim, List.length_take, Nat.min_eq_left hk]
    exact ⟨rfl, rfl⟩
   ·have Kb := Lib.hid hb
    go_wp2_with fail
    go_roundg (k - 1)
    case measure => have := Kq.out; omega
    case rel =>
     refine ⟨k - 1, ?_, by omega, rfl, fun i hi => ?_, rfl⟩
     ·congr 1; omega
     ·by_cases he : i = k - 1
      ·subst he; rw [Kx.out]; have := Kb.out; simpa using this
      ·exact Kz.out i (by omega)
  ·have h0I : decide ((0 : Int) < (k : Int)) = false := by simpa using h0
   have hk0 : k = 0 := by omega
   have Kk := Lib.hid hk0
   clear hk0
   go_wp2_with fail
   go_ret
   have he : Tb.Ends l k := ⟨hk, Kz.out, fun h => absurd h (by omega)⟩
   rw [he.trim, List.length_take, Nat.min_eq_left hk]
   exact ⟨rfl, rfl⟩
theorem cell_one_new (w : World) (u : Value) (t : TypeId) : ∀ (j : Nat) (x : Value), [u][j]? = some x → (w.alloc (.cells #[u] t)).cell? ((⟨w.heap.size, 0, none⟩ : Addr).add j) = some x := by
 intro j x hx
 rw [Addr.add_mid, (At.new w t #[u]).cell]
 cases j with
 | zero => simpa using hx
 | succ j => simp at hx
theorem one_one {u : Value} (h : u.oneCell' = true) : ∀ x ∈ [u], x.oneCell' = true := fun x hx => by simp at hx; rw [hx]; exact h
def OwnI (w : World) (B : Nat) (v : Value) (l : List Int) : Prop := w.ownsRow B 3 1 v l.length (vals l)
theorem OwnI.nil (w : World) (B : Nat) : OwnI w B (.slice none 0 0) [] := World.ownsRow_nil w B _ _
theorem OwnI.shape {w : World} {B : Nat} {v : Value} {l : List Int} (h : OwnI w B v l) : ∃ a c, v = .slice a l.length c := by
 obtain ⟨a, c, h1, _⟩ := own_slice h
 exact ⟨a, c, h1⟩
theorem OwnI.row {w : World} {B : Nat} {v : Value} {l : List Int} (h : OwnI w B v l) (hs : Small l) : RowIn w w.heap.size v l := RowIn.own h hs
theorem OwnI.drewN {w : World} {B : Nat} {v : Value} {l : List Int} (h : OwnI w B v l) (k : Nat) : OwnI (w.drewN k) B v l := own_drewN h k
theorem OwnI.alloc {w : World} {B : Nat} {v : Value} {l : List Int} (h : OwnI w B v l) (o : Obj) : OwnI (w.alloc o) B v l := World.ownsRow.alloc h o
theorem OwnI.below {w w' : World} {B : Nat} {v : Value} {l : List Int} (h : OwnI w B v l) (hb : Below w.heap.size w w') : OwnI w' B v l := own_below h hb (fun k hk => own_block h k hk)
set_option maxHeartbeats 1000000 in
theorem columns_any (A : Option Addr) (c B : Nat) (l : List Int) (w : World) (h : RowIn w B (.slice A l.length c) l) (hB : B ≤ w.heap.size) (hl : l.length ≤ 1099511627776) :
  Calls Tryd.prog 23 #[.slice A l.length c] w fun e w' => ∃ v, e = .returned v ∧ OwnI w' w.heap.size v (ints (Tb.cols l)) ∧ Below w.heap.size w w' := by
 obtain ⟨i0, hi, hz0, hz1, hz2⟩ := info_parts Tryd.infoInt
 have KN := Lib.hid h.nums
 clear h
 go_enter Tryd.func23, Tryd.ntmps23
 go_wp2_with fail
 go_loopg [3, 8] l.length (fun q t3 t8 wr => ∃ k : Nat, t8 = .int .i64 (k : Int) ∧ k ≤ l.length ∧ q = l.length - k ∧ OwnI wr w.heap.size t3 (ints (Tb.colsTo l k)) ∧ Below w.heap.size w wr)
 case atStart => exact ⟨0, rfl, by omega, by omega, OwnI.nil _ _, Below.refl _ _⟩
 case round =>
  obtain ⟨k, rfl, hk, hq, hO, hb⟩ := hrel
  have KO := Lib.hid hO
  have Kb := Lib.hid hb
  have Kq := Lib.hid hq
  obtain ⟨ao, co, rfl⟩ := hO.shape
  have hszr := hb.size
  clear hO hb hq
  by_cases hlt : k < l.length
  ·obtain ⟨x, hx⟩ : ∃ x, l[k]? = some x := ⟨_, List.getElem?_eq_getElem hlt⟩
   have hxd : l.getD k 0 = x := by rw [List.getD, hx]; rfl
   obtain ⟨b, o, rfl, hbB, c0⟩ := KN.out.each k hlt
   rw [hxd] at c0
   have c0 := (Kb.out.cell (p := ⟨b, o + k, none⟩) (show b < w.heap.size by omega)).trans c0
   have q1 : (0 : Int) ≤ (k : Int) := by omega
   have q2 : (k : Int) < (l.length : Int) := by omega
   have q3 : ((k : Int)).toNat = k := by omega
   have hs := Tb.colsTo_succ l k
   rw [hxd] at hs
   clear hx hxd
   have hle := Tb.colsTo_le l k
   cases hx : (x != 0)
   ·rw [if_pos (by simpa using hx)] at hs
    have Ks := Lib.hid hs
    clear hs hle
    go_wp2_with fail
    go_roundg (l.length - (k + 1))
    case measure => have := Kq.out; omega
    case rel => exact ⟨k + 1, by go_num, by omega, rfl, by rw [Ks.out]; exact KO.out, Kb.out⟩
   ·rw [if_neg (by simpa using hx)] at hs
    have Ks := Lib.hid hs
    have Kle := Lib.hid hle
    clear hs hle
    go_wp2_with (at_builtin; refine (wpList_append_own2 _ rfl (.tmp 15) (.tmp 17) 25 rfl w.heap.size 3 i0 _ 1 8 Tryd.underlying25 hi hz0 hz1 hz2 rfl (by decide) (.slice ao (ints (Tb.colsTo l k)).length co) _ (vals (ints (Tb.colsTo l k))) rfl (KO.out.alloc _) ⟨wr.heap.size, 0, none⟩ 1 1 [.int .i64 (k : Int)] rfl rfl (cell_one_new _ _ _) (one_one rfl) ?c1 ?c2 ?c3 ?_))
    case c1 => have := Kle.out; rw [ints_length]; unfold maxLen; omega
    case c2 => have := Kle.out; rw [ints_length]; omega
    case c3 => rw [World.size_alloc]; omega
    intro v' w1 hown hgrow hsn
    have KO1 := Lib.hid (show OwnI w1 w.heap.size v' (ints (Tb.colsTo l (k + 1))) by
     rw [Ks.out, ints_snoc]
     unfold OwnI
     rw [vals_snoc, List.length_append]; exact hown)
    have Kb1 := Lib.hid ((Kb.out.alloc hszr _).grown hgrow (by rw [World.size_alloc]; omega) (fun q hq => (KO.out.lt q hq).1))
    clear hown hgrow hsn
    go_wp2_with fail
    go_roundg (l.length - (k + 1))
    case measure => have := Kq.out; omega
    case rel => exact ⟨k + 1, by go_num, by omega, rfl, KO1.out, Kb1.out⟩
  ·obtain rfl : k = l.length := by omega
   go_wp2_with fail
   go_ret
   exact ⟨_, rfl, KO.out, Kb.out⟩
end Go.Proofs.YtjcijffhcmbhnaaDoor
