import Derived.Test.YtdlplmbdkjkeiaaDoorDgS
import Derived.Test.YtdlplmbdkjkeiaaDoorDgL
namespace Go.Proofs.YtdlplmbdkjkeiaaDoor
set_option maxRecDepth 100000
open Go.RowKit Go.Sort
set_option linter.unusedVariables false
set_option linter.unusedSimpArgs false
theorem put_own {α : Type} [Inhabited α] (enc : α → Value) {w : World} {B b n c : Nat} {e : TypeId} {xs : List Value} (ho : w.ownsRow B e 1 (.slice (some ⟨b, 0, none⟩) n c) n xs) (d : Array α) (hd : d.size = n) (m : Nat) (os : Array Obj) :
  (grow (putRow enc (Sort.ahead w m) b 0 d) os).ownsRow B e 1 (.slice (some ⟨b, 0, none⟩) n c) n (d.toList.map enc) ∧ w.grownBy (grow (putRow enc (Sort.ahead w m) b 0 d) os) (some b) := by
 rcases ho.2 with ⟨h', _⟩ | ⟨g', cap', cur, h', hb, hg, hnc, hcm, hcs, htake⟩
 ·simp at h'
 ·simp only [Value.slice.injEq, Option.some.injEq, Addr.mk.injEq, and_true, true_and] at h'
  obtain ⟨rfl, rfl⟩ := h'
  have hlt : b < w.heap.size := (Array.getElem?_eq_some_iff.1 hg).1
  have hblk : (grow (putRow enc (Sort.ahead w m) b 0 d) os).heap[b]? = some (.cells (putCells enc 0 d cur) e (0, 0)) := by
   have h1 : (putRow enc (Sort.ahead w m) b 0 d).heap[b]? = some (.cells (putCells enc 0 d cur) e (0, 0)) := by
    simp [putRow, mapBlock, Sort.ahead, Array.getElem?_modify, hg, onCells]
   rw [heap_grow_old _ _ (by simp [putRow, mapBlock, Sort.ahead]; exact hlt)]
   exact h1
  have hsz : (putCells enc 0 d cur).size = cur.size := by simp [putCells]
  have htk : (putCells enc 0 d cur).toList.take (n * 1) = d.toList.map enc := by
   apply List.ext_getElem?
   intro j
   rw [List.getElem?_take]
   by_cases hj : j < n
   ·have hjc : j < cur.size := by omega
    have hjd : j < d.size := by omega
    rw [if_pos (by omega)]
    simp [putCells, hjc, hjd]
   ·rw [if_neg (by omega)]
    symm
    apply List.getElem?_eq_none
    rw [List.length_map, Array.length_toList]; omega
  refine ⟨⟨by simp [hd], .inr ⟨b, c, _, rfl, hb, hblk, hnc, hcm, by rw [hsz]; exact hcs, htk⟩⟩, rfl, rfl, rfl, ?_, fun k hk hne => ?_⟩
  ·simp [grow, putRow, mapBlock, Sort.ahead]
  ·rw [heap_grow_old _ _ (by simp [putRow, mapBlock, Sort.ahead]; exact hk)]
   have hkb : ¬ b = k := fun e => hne (by rw [e])
   simp [putRow, mapBlock, Sort.ahead, Array.getElem?_modify, hkb]
theorem holds_own {α : Type} [Inhabited α] (enc : α → Value) {w : World} {B b n c : Nat} {e : TypeId} {d : Array α} (ho : w.ownsRow B e 1 (.slice (some ⟨b, 0, none⟩) n c) n (d.toList.map enc)) : Holds enc w b 0 d := by
 intro j hj
 have hn : d.size = n := by have := ho.1; simpa using this
 refine ⟨?_, ?_⟩
 ·rw [Nat.zero_add, ho.cellAt j (by omega)]
  simp [hj]
 ·rw [Nat.zero_add]; exact ho.frozenAt j
def cmpL : List Int → List Int → Int
 | [], [] => 0
 | [], _ :: _ => -1
 | _ :: _, [] => 1
 | x :: xs, y :: ys => if x < y then -1 else if y < x then 1 else cmpL xs ys
theorem cmpL_self : ∀ l, cmpL l l = 0
 | [] => rfl
 | x :: xs => by rw [cmpL, if_neg (by omega), if_neg (by omega)]; exact cmpL_self xs
theorem cmpL_trans : ∀ a b c, cmpL a b < 0 → cmpL b c < 0 → cmpL a c < 0
 | [], [], _, h, _ => by simp [cmpL] at h
 | [], _ :: _, [], _, h => by simp [cmpL] at h
 | [], _ :: _, _ :: _, _, _ => by simp [cmpL]
 | _ :: _, [], _, h, _ => by simp [cmpL] at h
 | _ :: _, _ :: _, [], _, h => by simp [cmpL] at h
 | x :: xs, y :: ys, z :: zs, h, k => by
  have ih := cmpL_trans xs ys zs
  unfold cmpL at h k ⊢
  split at h <;> split at k <;> (try split at h) <;> (try split at k) <;> split <;> (try split) <;> first | omega | exact ih h k
theorem cmpL_ntrans : ∀ a b c, ¬ cmpL a b < 0 → ¬ cmpL b c < 0 → ¬ cmpL a c < 0
 | [], [], _, _, k => k
 | [], _ :: _, _, h, _ => by simp [cmpL] at h
 | _ :: _, [], [], _, _ => by simp [cmpL]
 | _ :: _, [], _ :: _, _, k => by simp [cmpL] at k
 | _ :: _, _ :: _, [], _, _ => by simp [cmpL]
 | x :: xs, y :: ys, z :: zs, h, k => by
  have ih := cmpL_ntrans xs ys zs
  unfold cmpL at h k ⊢
  split at h <;> split at k <;> (try split at h) <;> (try split at k) <;> split <;> (try split) <;> first | omega | exact ih h k
theorem cmpL_swo (L : Nat → List Int) : SWO (Go.Proofs.ltOf fun i j : Nat => cmpL (L i) (L j)) where
 irrefl x := by
  show decide (cmpL (L x) (L x) < 0) = false
  rw [cmpL_self]; decide
 trans x y z h1 h2 := by unfold Go.Proofs.ltOf at *; simp only [decide_eq_true_eq] at *; exact cmpL_trans _ _ _ h1 h2
 ntrans x y z h1 h2 := by unfold Go.Proofs.ltOf at *; simp only [decide_eq_false_iff_not] at *; exact cmpL_ntrans _ _ _ h1 h2
theorem isNaN_any (x : Int) (w : World) : Calls Tryd.prog 81 #[.int .i64 x] w fun e w' => e = .returned (.bool false) ∧ w' = w := by
 have h : (x != x) = false := by simp
 go_enter Tryd.func81, Tryd.ntmps81
 go_wp2_with fail
 go_ret
 exact ⟨rfl, rfl⟩
def cmpI (x y : Int) : Int := if x < y then -1 else if y < x then 1 else 0
theorem cmpInt_any (x y : Int) (w : World) : Calls Tryd.prog 52 #[.int .i64 x, .int .i64 y] w fun e w' => e = .returned (.int .i64 (cmpI x y)) ∧ w' = w := by
 obtain ⟨r, hr⟩ : ∃ r, r = cmpI x y := ⟨_, rfl⟩
 rw [← hr]
 have Kr := Lib.hid hr
 clear hr
 go_enter Tryd.func52, Tryd.ntmps52
 go_wp2_with fail
 refine (isNaN_any x _).mono ?_
 rintro e w1 ⟨rfl, rfl⟩
 go_wp2_with fail
 refine (isNaN_any y _).mono ?_
 rintro e w2 ⟨rfl, rfl⟩
 by_cases h1 : x < y
 ·go_wp2_with fail
  go_ret
  refine ⟨?_, rfl⟩
  rw [Kr.out]; unfold cmpI; rw [if_pos h1]; rfl
 ·have K1 := Lib.hid h1
  by_cases h2 : y < x
  ·go_wp2_with fail
   go_ret
   refine ⟨?_, rfl⟩
   rw [Kr.out]; unfold cmpI; rw [if_neg (by have := K1.out; omega), if_pos h2]; rfl
  ·have K2 := Lib.hid h2
   go_wp2_with fail
   go_ret
   refine ⟨?_, rfl⟩
   rw [Kr.out]; unfold cmpI; rw [if_neg (by have := K1.out; omega), if_neg (by have := K2.out; omega)]; rfl
set_option maxHeartbeats 8000000 in
theorem compare_any (A : Option Addr) (c : Nat) (A' : Option Addr) (c' : Nat) (l l' : List Int) (B B' : Nat) (w : World) (h : Nums w B A l.length (fun i => l.getD i 0)) (h' : Nums w B' A' l'.length (fun i => l'.getD i 0)) :
  Calls Tryd.prog 31 #[.slice A l.length c, .slice A' l'.length c'] w fun e w' => e = .returned (.int .i64 (cmpL l l')) ∧ w' = w := by
 obtain ⟨r, hr⟩ : ∃ r, r = cmpL l l' := ⟨_, rfl⟩
 rw [← hr]
 have Kr := Lib.hid hr
 have KN := Lib.hid h
 have KN' := Lib.hid h'
 have hl := h.len
 have hl' := h'.len
 clear hr h h'
 go_enter Tryd.func31, Tryd.ntmps31
 go_wp2_with fail
 go_loopg [11] l.length (fun q t11 wr => ∃ k : Nat, t11 = .int .i64 (k : Int) ∧ k ≤ l.length ∧ q = l.length - k ∧ k ≤ l'.length ∧ cmpL (l.drop k) (l'.drop k) = r ∧ wr = w)
 case atStart => exact ⟨0, rfl, by omega, by omega, by omega, Kr.out.symm, rfl⟩
 case round =>
  obtain ⟨k, rfl, hk, hq, hk', hc, rfl⟩ := hrel
  have Kc := Lib.hid hc
  have Kq := Lib.hid hq
  clear hc hq
  by_cases hlt : k < l.length
  ·obtain ⟨b, o, rfl, _, cx⟩ := KN.out.each k hlt
   obtain ⟨x, hx⟩ : ∃ x, l[k]? = some x := ⟨_, List.getElem?_eq_getElem hlt⟩
   rw [show l.getD k 0 = x by rw [List.getD, hx]; rfl] at cx
   have hd : l.drop k = x :: l.drop (k + 1) := by
    rw [List.drop_eq_getElem_cons hlt]
    rw [List.getElem?_eq_getElem hlt] at hx
    injection hx with hx
    rw [hx]
   have Kd := Lib.hid hd
   have q1 : (0 : Int) ≤ (k : Int) := by omega
   have q2 : (k : Int) < (l.length : Int) := by omega
   have q3 : ((k : Int)).toNat = k := by omega
   clear hx hd
   by_cases hlt' : k < l'.length
   ·obtain ⟨b', o', rfl, _, cy⟩ := KN'.out.each k hlt'
    obtain ⟨y, hy⟩ : ∃ y, l'[k]? = some y := ⟨_, List.getElem?_eq_getElem hlt'⟩
    rw [show l'.getD k 0 = y by rw [List.getD, hy]; rfl] at cy
    have hd' : l'.drop k = y :: l'.drop (k + 1) := by
     rw [List.drop_eq_getElem_cons hlt']
     rw [List.getElem?_eq_getElem hlt'] at hy
     injection hy with hy
     rw [hy]
    have hc2 := Kc.out
    rw [Kd.out, hd', cmpL] at hc2
    have Kc2 := Lib.hid hc2
    have p1 : (k : Int) < (l'.length : Int) := by omega
    have hcmp := Lib.hid (cmpInt_any x y wr)
    obtain ⟨d, hd2⟩ : ∃ d, d = cmpI x y := ⟨_, rfl⟩
    rw [← hd2] at hcmp
    have Kd2 := Lib.hid hd2
    clear hy hd' hc2 hd2
    by_cases h0 : d = 0
    ·subst h0
     go_wp2_with fail
     refine hcmp.out.mono ?_
     rintro e w1 ⟨rfl, rfl⟩
     go_wp2_with fail
     go_roundg (l.length - (k + 1))
     case measure => have := Kq.out; omega
     case rel =>
      refine ⟨k + 1, by go_num, by omega, rfl, by omega, ?_, rfl⟩
      have h1 := Kc2.out
      have h2 := Kd2.out
      unfold cmpI at h2
      split at h2
      ·omega
      ·split at h2
       ·omega
       ·rename_i h3 h4
        rw [if_neg h3, if_neg h4] at h1; exact h1
    ·have hne : (d != 0) = true := by simpa using h0
     go_wp2_with fail
     refine hcmp.out.mono ?_
     rintro e w1 ⟨rfl, rfl⟩
     go_wp2_with fail
     go_ret
     refine ⟨?_, rfl⟩
     have h1 := Kc2.out
     have h2 := Kd2.out
     have h3 : d = r := by
      unfold cmpI at h2
      split at h2
      ·rename_i h4
       rw [if_pos h4] at h1; omega
      ·split at h2
       ·rename_i h3 h4
        rw [if_neg h3, if_pos h4] at h1; omega
       ·omega
     rw [← h3]; rfl
   ·obtain rfl : k = l'.length := by omega
    go_wp2_with fail
    go_ret
    refine ⟨?_, rfl⟩
    have h1 := Kc.out
    rw [Kd.out, List.drop_length, cmpL] at h1
    rw [← h1]; rfl
  ·obtain rfl : k = l.length := by omega
   have h1 := Kc.out
   rw [List.drop_length] at h1
   have K1 := Lib.hid h1
   clear h1
   by_cases hlt2 : (l.length : Int) < (l'.length : Int)
   ·go_wp2_with fail
    go_ret
    refine ⟨?_, rfl⟩
    have h2 := K1.out
    rw [List.drop_eq_getElem_cons (by omega), cmpL] at h2
    rw [← h2]; rfl
   ·have : l'.length = l.length := by omega
    go_wp2_with fail
    go_ret
    refine ⟨?_, rfl⟩
    have h2 := K1.out
    rw [List.drop_eq_nil_of_le (by omega), cmpL] at h2
    rw [← h2]; rfl
end Go.Proofs.YtdlplmbdkjkeiaaDoor
