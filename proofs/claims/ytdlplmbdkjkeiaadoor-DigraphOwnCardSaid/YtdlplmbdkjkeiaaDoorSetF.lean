import Derived.Test.YtdlplmbdkjkeiaaDoorSetE
import Derived.Test.YtdlplmbdkjkeiaaDoorSetU
import Derived.Test.YtdlplmbdkjkeiaaDoorSpare
namespace Go.Proofs.YtdlplmbdkjkeiaaDoor
set_option maxRecDepth 100000
open Go.RowKit
open BitKit
set_option linter.unusedVariables false
set_option linter.unusedSimpArgs false
theorem below_grown {w w' : World} (h : Below w.heap.size w w') : w.grownBy w' none := ⟨h.os, h.tape, h.output, h.size, fun i hi _ => h.block i hi⟩
theorem grown_turn {w w' : World} {b : Nat} (h : w.grownBy w' none) : w.grownBy w' (some b) := ⟨h.os, h.tape, h.output, h.size, fun i hi hne => h.block i hi (by simp)⟩
def vals (l : List Int) : List Value := l.map (.int .i64 ·)
def ints (l : List Nat) : List Int := l.map (fun x : Nat => (x : Int))
theorem valsOf_ints (l : List Nat) : valsOf l = vals (ints l) := by simp [valsOf, vals, ints]
theorem ints_inj {l l' : List Nat} : ints l = ints l' ↔ l = l' := by
 constructor
 ·intro h
  induction l generalizing l' with
  | nil => cases l' with
   | nil => rfl
   | cons y l' => simp [ints] at h
  | cons x l ih => cases l' with
   | nil => simp [ints] at h
   | cons y l' =>
    simp only [ints, List.map_cons, List.cons.injEq] at h
    rw [Int.ofNat_inj.1 h.1, ih h.2]
 ·rintro rfl; rfl
theorem ints_length (l : List Nat) : (ints l).length = l.length := by simp [ints]
theorem vals_length (l : List Int) : (vals l).length = l.length := by simp [vals]
def Small (l : List Int) : Prop := ∀ x ∈ l, -9223372036854775808 ≤ x ∧ x ≤ 9223372036854775807
structure Row (w : World) (v : Value) (l : List Int) : Prop where
 shape : ∃ A c, v = .slice A l.length c ∧ Nums w w.heap.size A l.length (fun i => l.getD i 0)
theorem Nums.wide {w : World} {B B' : Nat} {A : Option Addr} {n : Nat} {X : Nat → Int} (h : Nums w B A n X) (hB : B ≤ B') : Nums w B' A n X :=
 ⟨fun i hi => by obtain ⟨b, o, h1, h2, h3⟩ := h.each i hi; exact ⟨b, o, h1, by omega, h3⟩, h.rx, h.len⟩
theorem Row.below {w w' : World} {v : Value} {l : List Int} (h : Row w v l) (hb : Below w.heap.size w w') : Row w' v l := by
 obtain ⟨A, c, rfl, hn⟩ := h.shape
 exact ⟨⟨A, c, rfl, (hn.below hb).wide hb.size⟩⟩
theorem Row.drewN {w : World} {v : Value} {l : List Int} (h : Row w v l) (k : Nat) : Row (w.drewN k) v l := by
 obtain ⟨A, c, h1, h2⟩ := h.shape
 exact ⟨⟨A, c, h1, ⟨h2.each, h2.rx, h2.len⟩⟩⟩
theorem Row.turn {w w' : World} {v : Value} {l : List Int} {b : Nat} (h : Row w v l) (hg : w.grownBy w' (some b)) (hne : ∀ A n c, v = .slice (some A) n c → 0 < n → A.block ≠ b) : Row w' v l := by
 obtain ⟨A, c, rfl, hn⟩ := h.shape
 refine ⟨⟨A, c, rfl, ⟨fun i hi => ?_, hn.rx, hn.len⟩⟩⟩
 obtain ⟨b', o, rfl, h2, h3⟩ := hn.each i hi
 have hb := hg.block b' h2 (fun e => hne _ _ _ rfl (by omega) (by injection e with e))
 exact ⟨b', o, rfl, Nat.lt_of_lt_of_le h2 hg.size, by unfold World.cell? at *; rw [hb]; exact h3⟩
theorem Row.low {w : World} {v : Value} {l : List Int} (h : Row w v l) : ∀ a n c, v = .slice (some a) n c → 0 < n → a.block < w.heap.size := by
 intro a n c he hn
 obtain ⟨A, c', rfl, hN⟩ := h.shape
 injection he with h1 h2
 subst h1 h2
 obtain ⟨b', o, hb', hlt, _⟩ := hN.each 0 hn
 injection hb' with hb'
 rw [hb']; exact hlt
theorem row_own {w : World} {B n : Nat} {v : Value} {l : List Int} (h : w.ownsRow B 3 1 v n (vals l)) (hs : Small l) : Row w v l := by
 have hl : n = l.length := by have := h.1; simpa [vals_length] using this.symm
 subst hl
 rcases own_shape h with ⟨rfl, h0, h1⟩ | ⟨g, cap, rfl, hc, hm, hb, hlt⟩
 ·refine ⟨⟨none, 0, by rw [h0], ⟨fun i hi => by omega, fun i hi => by omega, by omega⟩⟩⟩
 ·refine ⟨⟨some ⟨g, 0, none⟩, cap, rfl, ⟨fun i hi => ⟨g, 0, rfl, hlt, ?_⟩, fun i hi => ?_, ?_⟩⟩⟩
  ·have := h.cells (g := g) rfl i (.int .i64 (l.getD i 0)) (by simp [vals, hi, List.getD])
   rw [Addr.add_mid] at this
   exact this
  ·have : l.getD i 0 ∈ l := by simp [List.getD, hi]
   exact hs _ this
  ·have := maxLen_le hm; omega
theorem row_new (w : World) (l : List Int) (hs : Small l) (hl : l.length ≤ 1000) : Row (w.alloc (.cells (vals l).toArray 3)) (.slice (some ⟨w.heap.size, 0, none⟩) l.length l.length) l := by
 refine ⟨⟨_, _, rfl, ⟨fun i hi => ⟨w.heap.size, 0, rfl, by simp, ?_⟩, fun i hi => ?_, by omega⟩⟩⟩
 ·rw [(At.new w _ _).cell, Nat.zero_add]; simp [vals, hi, List.getD]
 ·have : l.getD i 0 ∈ l := by simp [List.getD, hi]
  exact hs _ this
def SameTo (X Y : Nat → Int) (k : Nat) : Prop := ∀ i, i < k → X i = Y i
def SameL (n n' : Nat) (X Y : Nat → Int) : Prop := n = n' ∧ SameTo X Y n
set_option maxHeartbeats 4000000 in
theorem ints_any (A : Option Addr) (n c : Nat) (X : Nat → Int) (A' : Option Addr) (n' c' : Nat) (Y : Nat → Int) (B B' : Nat) (w : World) (O : Nums w B A n X) (O' : Nums w B' A' n' Y) :
  Calls Tryd.prog 12 #[.slice A n c, .slice A' n' c'] w fun e w' => Tells e (SameL n n' X Y) ∧ ∃ k, w' = w.drewN k := by
 have HO := Lib.hid O
 have HO' := Lib.hid O'
 have hl := O.len
 have hl' := O'.len
 clear O O'
 go_enter Tryd.func12, Tryd.ntmps12
 by_cases hn : n = n'
 ·subst hn
  go_wp2_with fail
  go_loopw [5] (fun i wr => ∃ k : Nat, k ≤ n ∧ i = .int .i64 (k : Int) ∧ SameTo X Y k ∧ ∃ m, wr = w.drewN m) (fun i _ => n - (intOf i).toNat)
  case atStart => exact ⟨0, by omega, rfl, fun i hi => by omega, 0, rfl⟩
  case round =>
   obtain ⟨k, hk, rfl, hsame, m, rfl⟩ := hrel
   have HS := Lib.hid hsame
   clear hsame
   by_cases hlt : k < n
   ·obtain ⟨b, o, rfl, _, c0⟩ := HO.out.each k hlt
    obtain ⟨b', o', rfl, _, c1⟩ := HO'.out.each k hlt
    have hltI : (k : Int) < (n : Int) := by omega
    have h0I : (0 : Int) ≤ (k : Int) := by omega
    have hkI : ((k : Int)).toNat = k := by omega
    cases hb : (X k != Y k)
    ·go_wp2_with fail
     go_quiet (fail)
     go_wp2_with fail
     go_roundw
     case rel =>
      refine ⟨k + 1, by omega, by go_num, fun i hi => ?_, _, rfl⟩
      by_cases he : i = k
      ·subst he; simpa using hb
      ·exact HS.out i (by omega)
     case measure => simp [intOf]; omega
    ·go_wp2_with fail
     go_quiet (fail)
     go_wp2_with fail
     go_ret
     refine ⟨Tells.no rfl (fun h => ?_), _, World.drewN_drewN ..⟩
     have := h.2 k hlt
     rw [this] at hb; simp at hb
   ·obtain rfl : n = k := by omega
    go_wp2_with fail
    go_ret
    exact ⟨Tells.yes rfl ⟨rfl, HS.out⟩, _, rfl⟩
 ·have hnI : ((n : Int) != (n' : Int)) = true := by simp; omega
  go_wp2_with fail
  go_ret
  exact ⟨Tells.no rfl (fun h => hn h.1), 0, rfl⟩
theorem Tells.iff {e : Ending} {p q : Prop} (h : Tells e p) (hi : p ↔ q) : Tells e q := by obtain ⟨r, h1, h2⟩ := h; exact ⟨r, h1, h2.trans hi⟩
theorem list_ext_getD {l l' : List Int} (hl : l.length = l'.length) (h : SameTo (fun i => l.getD i 0) (fun i => l'.getD i 0) l.length) : l = l' := by
 apply List.ext_getElem hl
 intro i h1 h2
 have := h i h1
 simpa [List.getD, h1, h2] using this
theorem ints_row (v v' : Value) (l l' : List Int) (w : World) (h : Row w v l) (h' : Row w v' l') :
  Calls Tryd.prog 12 #[v, v'] w fun e w' => Tells e (l = l') ∧ ∃ k, w' = w.drewN k := by
 obtain ⟨A, c, rfl, hn⟩ := h.shape
 obtain ⟨A', c', rfl, hn'⟩ := h'.shape
 refine (ints_any _ _ _ _ _ _ _ _ _ _ w hn hn').mono fun e w' hh => ⟨hh.1.iff ?_, hh.2⟩
 constructor
 ·rintro ⟨h1, h2⟩; exact list_ext_getD h1 h2
 ·rintro rfl; exact ⟨rfl, fun i _ => rfl⟩
def InTo (X : Nat → Int) (x : Int) (k : Nat) : Prop := ∃ i, i < k ∧ X i = x
set_option maxHeartbeats 4000000 in
theorem in_any (A : Option Addr) (n c : Nat) (X : Nat → Int) (B : Nat) (x : Int) (w : World) (O : Nums w B A n X) :
  Calls Tryd.prog 19 #[.slice A n c, .int .i64 x] w fun e w' => Tells e (InTo X x n) ∧ ∃ k, w' = w.drewN k := by
 have HO := Lib.hid O
 have hl := O.len
 clear O
 go_enter Tryd.func19, Tryd.ntmps19
 go_wp2_with fail
 go_loopw [5] (fun i wr => ∃ k : Nat, k ≤ n ∧ i = .int .i64 (k : Int) ∧ (¬ InTo X x k) ∧ ∃ m, wr = w.drewN m) (fun i _ => n - (intOf i).toNat)
 case atStart => exact ⟨0, by omega, rfl, fun ⟨i, h, _⟩ => by omega, 0, rfl⟩
 case round =>
  obtain ⟨k, hk, rfl, hno, m, rfl⟩ := hrel
  have HN := Lib.hid hno
  clear hno
  by_cases hlt : k < n
  ·obtain ⟨b, o, rfl, _, c0⟩ := HO.out.each k hlt
   have hltI : (k : Int) < (n : Int) := by omega
   have h0I : (0 : Int) ≤ (k : Int) := by omega
   have hkI : ((k : Int)).toNat = k := by omega
   cases hb : (X k == x)
   ·go_wp2_with fail
    go_roundw
    case rel =>
     refine ⟨k + 1, by omega, by go_num, ?_, _, rfl⟩
     rintro ⟨i, hi, hx⟩
     by_cases he : i = k
     ·subst he; rw [hx] at hb; simp at hb
     ·exact HN.out ⟨i, by omega, hx⟩
    case measure => simp [intOf]; omega
   ·go_wp2_with fail
    go_ret
    exact ⟨Tells.yes rfl ⟨k, hlt, by simpa using hb⟩, _, rfl⟩
  ·obtain rfl : n = k := by omega
   go_wp2_with fail
   go_ret
   exact ⟨Tells.no rfl HN.out, _, rfl⟩
end Go.Proofs.YtdlplmbdkjkeiaaDoor
