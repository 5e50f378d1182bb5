import Derived.Test.YtdhhkancbgealaaGreatT00
import Derived.Test.YtdhhkancbgealaaGreatT01
import Derived.Test.YtdhhkancbgealaaGreatT07
import Derived.Test.YtdhhkancbgealaaGreatT08
import Derived.Deep.MidRow
import Derived.Laws.ResultCell
namespace Go.Proofs.YtdhhkancbgealaaGreat
open Go.RowKit
open Lx
set_option linter.unusedVariables false
set_option linter.unusedSimpArgs false
set_option maxRecDepth 100000
theorem flatN_at {α : Type} (f : α → List Value) (n : Nat) (hf : ∀ x, (f x).length = n) : ∀ (l : List α) (i r : Nat) (q : α), l[i]? = some q → r < n → (l.flatMap f)[i * n + r]? = (f q)[r]?
 | [], i, r, q, h, _ => by simp at h
 | x :: l, 0, r, q, h, hr => by
  simp at h; subst h
  rw [List.flatMap_cons, Nat.zero_mul, Nat.zero_add, List.getElem?_append_left (by rw [hf]; exact hr)]
 | x :: l, i + 1, r, q, h, hr => by
  simp at h
  rw [List.flatMap_cons, List.getElem?_append_right (by rw [hf, Nat.add_mul]; omega), hf, show (i + 1) * n + r - n = i * n + r by rw [Nat.add_mul]; omega]
  exact flatN_at f n hf l i r q h hr
structure Sl where
 x : Tr.Nd
 A : Option Addr
 c : Nat
def ndC (x : Tr.Nd) (k : Value) : List Value := [.bool x.leaf, .bool x.under, .int .i64 x.rule, .int .i64 x.sym, .int .i64 x.tok.t, .int .i64 x.tok.a, .int .i64 x.tok.b, k]
def Sl.kv (s : Sl) : Value := .slice s.A s.x.kids.length s.c
def Sl.nd (s : Sl) : List Value := ndC s.x s.kv
def Sl.cells (s : Sl) : List Value := [.bool s.x.leaf, .bool s.x.under, .int .i64 s.x.rule, .int .i64 s.x.sym, .int .i64 s.x.tok.t, .int .i64 s.x.tok.a, .int .i64 s.x.tok.b, s.kv, .int .i64 (1 + (s.x.kids.length : Int))]
theorem Sl.cells_len (s : Sl) : s.cells.length = 9 := rfl
def flatS (S : List Sl) : List Value := S.flatMap Sl.cells
theorem flatS_at {S : List Sl} {k r : Nat} {s : Sl} (h : S[k]? = some s) (hr : r < 9) : (flatS S)[k * 9 + r]? = s.cells[r]? := flatN_at Sl.cells 9 Sl.cells_len S k r s h hr
def nds (S : List Sl) : List Tr.Nd := S.map (·.x)
theorem nds_len (S : List Sl) : (nds S).length = S.length := by simp [nds]
theorem nds_at {S : List Sl} {k : Nat} {s : Sl} (h : S[k]? = some s) : (nds S)[k]? = some s.x := by simp [nds, h]
def costS (S : List Sl) : Int := Tr.cost (nds S)
theorem costS_len (S : List Sl) : (S.length : Int) ≤ costS S := by have := Tr.cost_len (nds S); rw [nds_len] at this; exact this
abbrev tNode : TypeId := 91
abbrev tSlot : TypeId := 139
abbrev tAr : TypeId := 128
theorem sizeNode : (Tryz.prog.info? 91).map (·.size) = some 8 := by kernel_rfl
theorem infoSlot : (Tryz.prog.info? 139).map (fun i => (i.zero, i.size, i.bytes)) = some (some (.agg #[.bool false, .bool false, .int .i64 0, .int .i64 0, .int .i64 0, .int .i64 0, .int .i64 0, .slice none 0 0, .int .i64 0]), 9, 80) := by kernel_rfl
structure ArN (w : World) (B g mb : Nat) (v : Value) (S : List Sl) : Prop where
 at_ : At w g 128 #[.pointer (some ⟨mb, 0, none⟩), v, .int .i64 (costS S)]
 own : w.ownsRow B 139 9 v S.length (flatS S)
 most : costS S ≤ 1099511627776
section
variable {w w' : World} {B g mb : Nat} {v : Value} {S : List Sl}
theorem ArN.size (h : ArN w B g mb v S) : (S.length : Int) ≤ 1099511627776 := Int.le_trans (costS_len S) h.most
theorem ArN.shape (h : ArN w B g mb v S) : ∃ ao cap, v = .slice ao S.length cap := by
 rcases own_shape h.own with ⟨rfl, e, _⟩ | ⟨g', cap, rfl, _⟩
 ·rw [e]; exact ⟨_, _, rfl⟩
 ·exact ⟨_, _, rfl⟩
theorem ArN.below (h : ArN w B g mb v S) (hb : Below w.heap.size w w') : ArN w' B g mb v S :=
 ⟨h.at_.below hb h.at_.lt, own_below h.own hb (fun k hk => (h.own.lt k hk).2), h.most⟩
theorem ArN.drew (h : ArN w B g mb v S) : ArN w.drew B g mb v S := ⟨h.at_.drew, h.own, h.most⟩
theorem ArN.drewN (h : ArN w B g mb v S) (n : Nat) : ArN (w.drewN n) B g mb v S := ⟨h.at_.drewN n, own_drewN h.own n, h.most⟩
theorem ArN.keeps {K : List Nat} (h : ArN w B g mb v S) (hk : Keeps K w w') (hg : g ∉ K) (hv : ∀ k, v.ownBlock = some k → k ∉ K) : ArN w' B g mb v S :=
 ⟨h.at_.keeps hk hg, own_keeps h.own hk hv, h.most⟩
theorem ArN.spares {ts : List TypeId} (h : ArN w B g mb v S) (hs : Spares ts w w') (h1 : 128 ∉ ts) (h2 : 139 ∉ ts) : ArN w' B g mb v S :=
 ⟨h.at_.spares hs h1, own_spares h.own hs h2, h.most⟩
theorem ArN.shapeIn (h : ArN w B g mb v S) {k : Nat} {s : Sl} (hk : S[k]? = some s) :
  ∃ b cap, v = .slice (some ⟨b, 0, none⟩) S.length cap ∧ k < S.length ∧ S.length ≤ cap ∧ cap ≤ maxLen ∧ B ≤ b ∧ b < w.heap.size ∧ (∀ r u, r < 9 → s.cells[r]? = some u → w.cell? ⟨b, k * 9 + r, none⟩ = some u) ∧
   (∀ j, w.frozen? ⟨b, j, none⟩ = false) := by
 have hlt : k < S.length := (List.getElem?_eq_some_iff.1 hk).1
 rcases own_shape h.own with ⟨rfl, e, _⟩ | ⟨b, cap, rfl, h1, h2, h3, h4⟩
 ·omega
 ·refine ⟨b, cap, rfl, hlt, h1, h2, h3, h4, ?_, fun j => h.own.frozenAt j⟩
  intro r u hr hu
  rw [h.own.cellAt (k * 9 + r) (by omega), flatS_at hk hr]; exact hu
end
set_option maxHeartbeats 400000 in
theorem newN_any (mb : Nat) (w : World) :
  Calls Tryz.prog 41 #[.pointer (some ⟨mb, 0, none⟩)] w fun e w' => e = .returned (.pointer (some ⟨w.heap.size, 0, none⟩)) ∧ w.alloc (.cells #[.pointer (some ⟨mb, 0, none⟩), .slice none 0 0, .int .i64 0] 128) = w' := by
 go_enter Tryz.func41, Tryz.ntmps41
 go_wp2
 go_ret
 exact ⟨rfl, rfl⟩
set_option maxHeartbeats 400000 in
theorem lenN_any (w : World) (B g mb : Nat) (v : Value) (S : List Sl) (hA : ArN w B g mb v S) :
  Calls Tryz.prog 47 #[.pointer (some ⟨g, 0, none⟩)] w fun e w' => e = .returned (.int .i64 (S.length : Int)) ∧ w = w' := by
 obtain ⟨ao, cap, rfl⟩ := hA.shape
 have c1 := hA.at_.cell 1
 clear hA
 simp at c1
 go_enter Tryz.func47, Tryz.ntmps47
 go_wp2
 go_ret
 exact ⟨rfl, rfl⟩
set_option maxHeartbeats 400000 in
theorem cellsN_any (w : World) (B g mb : Nat) (v : Value) (S : List Sl) (hA : ArN w B g mb v S) :
  Calls Tryz.prog 48 #[.pointer (some ⟨g, 0, none⟩)] w fun e w' => e = .returned (.int .i64 (costS S)) ∧ w = w' := by
 have c1 := hA.at_.cell 2
 clear hA
 simp at c1
 go_enter Tryz.func48, Tryz.ntmps48
 go_wp2
 go_ret
 exact ⟨rfl, rfl⟩
theorem has_nds (S : List Sl) (i : Int) : Tr.has (nds S) i = decide (0 ≤ i ∧ i < (S.length : Int)) := by unfold Tr.has; rw [nds_len]
set_option maxHeartbeats 400000 in
theorem hasN_any (i : Int) (w : World) (B g mb : Nat) (v : Value) (S : List Sl) (hA : ArN w B g mb v S) :
  Calls Tryz.prog 82 #[.pointer (some ⟨g, 0, none⟩), .int .i64 i] w fun e w' => e = .returned (.bool (Tr.has (nds S) i)) ∧ w = w' := by
 obtain ⟨ao, cap, rfl⟩ := hA.shape
 have c1 := hA.at_.cell 1
 have HH := Lib.hid (has_nds S i)
 clear hA
 simp at c1
 go_enter Tryz.func82, Tryz.ntmps82
 by_cases h1 : i < 0
 ·have h2 : ¬ 0 ≤ i := by omega
  go_wp2
  all_goals go_ret
  all_goals exact ⟨ret_bool (by rw [HH.out, decide_eq_false (by omega)]), rfl⟩
 ·have h0 : 0 ≤ i := by omega
  by_cases h2 : i < (S.length : Int)
  ·go_wp2
   all_goals go_ret
   all_goals exact ⟨ret_bool (by rw [HH.out, decide_eq_true (by omega)]), rfl⟩
  ·go_wp2
   all_goals go_ret
   all_goals exact ⟨ret_bool (by rw [HH.out, decide_eq_false (by omega)]), rfl⟩
theorem results_node {tmps : Array Value} {w : World} {q : Nat} {cs : Array Value} (hp : tmps.getD 4 undef = .pointer (some ⟨q, 0, none⟩)) (hq : At w q 91 cs) (hcs : cs.size = 8) (v : Value) (hv : tmps.getD 5 undef = v) :
  (results Tryz.f72 tmps).run Tryz.prog w = .ok (.tuple #[.agg cs, v]) w := by
 rw [results_cell_tmp (p := 4) (u := 5) (ty := 91) rfl, hp, hv]
 simp [asAddr, run_loadVar_row w q 91 91 cs (0, 0) _ hq Tryz.underlying91 rfl (by rw [hcs]; exact sizeNode), Result.andThen]
set_option maxHeartbeats 1600000 in
theorem atN_in (k : Nat) (s : Sl) (w : World) (B g mb : Nat) (v : Value) (S : List Sl) (hA : ArN w B g mb v S) (hk : S[k]? = some s) :
  Calls Tryz.prog 72 #[.pointer (some ⟨g, 0, none⟩), .int .i64 (k : Int)] w fun e w' => e = .returned (.tuple #[.agg s.nd.toArray, .bool true]) ∧ Below w.heap.size w w' := by
 obtain ⟨W, hW⟩ : ∃ W, w.alloc (.cells #[.bool false, .bool false, .int .i64 0, .int .i64 0, .int .i64 0, .int .i64 0, .int .i64 0, .slice none 0 0] 91) = W := ⟨_, rfl⟩
 have hb : Below w.heap.size w W := by rw [← hW]; exact (Below.refl w.heap.size w).alloc (Nat.le_refl _) _
 have hR : At W w.heap.size 91 #[.bool false, .bool false, .int .i64 0, .int .i64 0, .int .i64 0, .int .i64 0, .int .i64 0, .slice none 0 0] := by rw [← hW]; exact At.new _ _ _
 have hA' := hA.below hb
 have HH := Lib.hid (hasN_any (k : Int) W B g mb v S hA')
 obtain ⟨b, cap, rfl, hlt, h1, h2, h3, h4, hc, _⟩ := hA'.shapeIn hk
 have c1 := hA'.at_.cell 1
 have hsz := hA'.size
 have ht : Tr.has (nds S) (k : Int) = true := Tr.has_of (by rw [nds_len]; exact hlt)
 rw [ht] at HH
 have y0 := hc 0 _ (by decide) rfl
 have y1 := hc 1 _ (by decide) rfl
 have y2 := hc 2 _ (by decide) rfl
 have y3 := hc 3 _ (by decide) rfl
 have y4 := hc 4 _ (by decide) rfl
 have y5 := hc 5 _ (by decide) rfl
 have y6 := hc 6 _ (by decide) rfl
 have y7 := hc 7 _ (by decide) rfl
 have HSK := Lib.hid (show s.nd = [.bool s.x.leaf, .bool s.x.under, .int .i64 s.x.rule, .int .i64 s.x.sym, .int .i64 s.x.tok.t, .int .i64 s.x.tok.a, .int .i64 s.x.tok.b, s.kv] from rfl)
 have hkv : s.kv = .slice s.A s.x.kids.length s.c := rfl
 rw [hkv] at y7 HSK
 generalize s.x.kids.length = kn at y7 HSK
 generalize s.nd = NV at HSK ⊢
 obtain ⟨sl, su, sr, sy, s1, s2, s3, sa, sc, e0, e1, e2, e3, e4, e5, e6, e7, e8⟩ : ∃ sl su sr sy s1 s2 s3 sa sc, s.x.leaf = sl ∧ s.x.under = su ∧ s.x.rule = sr ∧ s.x.sym = sy ∧ s.x.tok.t = s1 ∧ s.x.tok.a = s2 ∧ s.x.tok.b = s3 ∧ s.A = sa ∧ s.c = sc := ⟨_, _, _, _, _, _, _, _, _, rfl, rfl, rfl, rfl, rfl, rfl, rfl, rfl, rfl⟩
 rw [e0] at y0 HSK; rw [e1] at y1 HSK; rw [e2] at y2 HSK; rw [e3] at y3 HSK; rw [e4] at y4 HSK; rw [e5] at y5 HSK; rw [e6] at y6 HSK; rw [e7, e8] at y7 HSK
 have HW := Lib.hid hW
 have HR := Lib.hid hR
 have HB := Lib.hid hb
 have hRlt := hR.lt
 clear hA hA' hk h2 h3 hc hW hR hb e0 e1 e2 e3 e4 e5 e6 e7 e8 hkv
 simp at c1
 simp only [Nat.add_zero] at y0
 have hki : (k : Int) < (S.length : Int) := by omega
 have hk0 : (0 : Int) ≤ (k : Int) := by omega
 go_enter Tryz.func72, Tryz.ntmps72
 go_wp2_with fail
 rw [HW.out]
 refine HH.out.mono ?_
 rintro e w' ⟨rfl, rfl⟩
 go_wp2_with (refine wpList_store_at rfl _ _ _ rfl rfl w.heap.size _ _ [_, _, _, _, _, _, _, _] rfl rfl HR.out 8 sizeNode rfl rfl rfl ?_; intro w3 hA3 hg3)
 refine bodyPost_ret (results_node rfl hA3 rfl (.bool true) rfl) rfl ⟨?_, below_grown HB.out hg3 HB.out.size (Nat.le_refl _)⟩
 rw [HSK.out]
set_option maxHeartbeats 1600000 in
theorem atN_out (i : Int) (w : World) (B g mb : Nat) (v : Value) (S : List Sl) (hA : ArN w B g mb v S) (hi : Tr.has (nds S) i = false) :
  Calls Tryz.prog 72 #[.pointer (some ⟨g, 0, none⟩), .int .i64 i] w fun e w' => e = .returned (.tuple #[.agg (ndC ⟨false, false, 0, 0, Tr.Tok.zero, []⟩ (.slice none 0 0)).toArray, .bool false]) ∧ Below w.heap.size w w' := by
 obtain ⟨W, hW⟩ : ∃ W, w.alloc (.cells #[.bool false, .bool false, .int .i64 0, .int .i64 0, .int .i64 0, .int .i64 0, .int .i64 0, .slice none 0 0] 91) = W := ⟨_, rfl⟩
 have hb : Below w.heap.size w W := by rw [← hW]; exact (Below.refl w.heap.size w).alloc (Nat.le_refl _) _
 have hR : At W w.heap.size 91 #[.bool false, .bool false, .int .i64 0, .int .i64 0, .int .i64 0, .int .i64 0, .int .i64 0, .slice none 0 0] := by rw [← hW]; exact At.new _ _ _
 have HH := Lib.hid (hasN_any i W B g mb v S (hA.below hb))
 rw [hi] at HH
 have HW := Lib.hid hW
 have HR := Lib.hid (hR.alloc (.cells #[.bool false, .bool false, .int .i64 0, .int .i64 0, .int .i64 0, .int .i64 0, .int .i64 0, .slice none 0 0] 91))
 have HB := Lib.hid (hb.alloc hb.size (.cells #[.bool false, .bool false, .int .i64 0, .int .i64 0, .int .i64 0, .int .i64 0, .int .i64 0, .slice none 0 0] 91))
 clear hA hi hW hR hb
 go_enter Tryz.func72, Tryz.ntmps72
 go_wp2_with fail
 rw [HW.out]
 refine HH.out.mono ?_
 rintro e w' ⟨rfl, rfl⟩
 go_wp2_with (refine wpList_store_at rfl _ _ _ rfl rfl w.heap.size _ _ [_, _, _, _, _, _, _, _] rfl rfl HR.out 8 sizeNode rfl rfl rfl ?_; intro w3 hA3 hg3)
 refine bodyPost_ret (results_node rfl hA3 rfl (.bool false) rfl) rfl ⟨rfl, below_grown HB.out hg3 HB.out.size (Nat.le_refl _)⟩
theorem flatS_set : ∀ (S : List Sl) (k : Nat) (s : Sl) (x : Tr.Nd), S[k]? = some s → x.kids = s.x.kids →
  ((((((((flatS S).set (k * 9 + 0) (.bool x.leaf)).set (k * 9 + 1) (.bool x.under)).set (k * 9 + 2) (.int .i64 x.rule)).set (k * 9 + 3) (.int .i64 x.sym)).set (k * 9 + 4) (.int .i64 x.tok.t)).set (k * 9 + 5) (.int .i64 x.tok.a)).set (k * 9 + 6) (.int .i64 x.tok.b)).set (k * 9 + 7) s.kv = flatS (S.set k ⟨x, s.A, s.c⟩)
 | [], k, s, x, h, _ => by simp at h
 | q :: S, 0, s, x, h, hx => by
  simp at h; subst h
  simp [flatS, Sl.cells, Sl.kv, hx]
 | q :: S, k + 1, s, x, h, hx => by
  simp at h
  have ih := flatS_set S k s x h hx
  have e : ∀ r, (k + 1) * 9 + r = k * 9 + r + 1 + 1 + 1 + 1 + 1 + 1 + 1 + 1 + 1 := fun r => by omega
  have e2 : flatS (q :: S) = .bool q.x.leaf :: .bool q.x.under :: .int .i64 q.x.rule :: .int .i64 q.x.sym :: .int .i64 q.x.tok.t :: .int .i64 q.x.tok.a :: .int .i64 q.x.tok.b :: q.kv :: .int .i64 (1 + (q.x.kids.length : Int)) :: flatS S := rfl
  have e3 : flatS ((q :: S).set (k + 1) ⟨x, s.A, s.c⟩) = .bool q.x.leaf :: .bool q.x.under :: .int .i64 q.x.rule :: .int .i64 q.x.sym :: .int .i64 q.x.tok.t :: .int .i64 q.x.tok.a :: .int .i64 q.x.tok.b :: q.kv :: .int .i64 (1 + (q.x.kids.length : Int)) :: flatS (S.set k ⟨x, s.A, s.c⟩) := rfl
  rw [e2, e3, ← ih]
  simp only [e, List.set_cons_succ]
  rfl
def Sl.low (s : Sl) : Sl := ⟨{ s.x with under := true }, s.A, s.c⟩
theorem nds_low {S : List Sl} {k : Nat} {s : Sl} (h : S[k]? = some s) : nds (S.set k s.low) = Tr.mark (nds S) (k : Int) := by
 unfold nds Tr.mark
 rw [if_pos (by omega)]
 simp only [Int.toNat_natCast]
 refine List.ext_getElem? fun j => ?_
 rw [List.getElem?_map, List.getElem?_modify, List.getElem?_map, List.getElem?_set]
 by_cases hj : k = j
 ·subst hj
  have := (List.getElem?_eq_some_iff.1 h).1
  have e := List.getElem?_eq_getElem this
  rw [h] at e
  simp only [Option.some.injEq] at e
  subst e
  simp [this, Sl.low]
 ·simp [hj]
theorem ArN.stored {w : World} {B g mb b cap k : Nat} {v : Value} {S : List Sl} {s : Sl} (h : ArN w B g mb v S) (hk : S[k]? = some s) (hv : v = .slice (some ⟨b, 0, none⟩) S.length cap) (hne : g ≠ b) (x : Tr.Nd) (hx : x.kids = s.x.kids) :
  let w' := (((((((w.setCell ⟨b, k * 9 + 0, none⟩ (.bool x.leaf)).setCell ⟨b, k * 9 + 1, none⟩ (.bool x.under)).setCell ⟨b, k * 9 + 2, none⟩ (.int .i64 x.rule)).setCell ⟨b, k * 9 + 3, none⟩ (.int .i64 x.sym)).setCell ⟨b, k * 9 + 4, none⟩ (.int .i64 x.tok.t)).setCell ⟨b, k * 9 + 5, none⟩ (.int .i64 x.tok.a)).setCell ⟨b, k * 9 + 6, none⟩ (.int .i64 x.tok.b)).setCell ⟨b, k * 9 + 7, none⟩ s.kv
  ArN w' B g mb v (S.set k ⟨x, s.A, s.c⟩) ∧ Keeps [b] w w' := by
 subst hv
 intro w'
 have o1 := h.own.stored (k * 9 + 0) (.bool x.leaf)
 have o2 := o1.1.stored (k * 9 + 1) (.bool x.under)
 have o3 := o2.1.stored (k * 9 + 2) (.int .i64 x.rule)
 have o4 := o3.1.stored (k * 9 + 3) (.int .i64 x.sym)
 have o5 := o4.1.stored (k * 9 + 4) (.int .i64 x.tok.t)
 have o6 := o5.1.stored (k * 9 + 5) (.int .i64 x.tok.a)
 have o7 := o6.1.stored (k * 9 + 6) (.int .i64 x.tok.b)
 have o8 := o7.1.stored (k * 9 + 7) s.kv
 have hg := grown_trans o1.2 (grown_trans o2.2 (grown_trans o3.2 (grown_trans o4.2 (grown_trans o5.2 (grown_trans o6.2 (grown_trans o7.2 o8.2))))))
 have hc : costS (S.set k ⟨x, s.A, s.c⟩) = costS S := by
  have e : ∀ (S : List Sl) (k : Nat) (s : Sl), S[k]? = some s → costS (S.set k ⟨x, s.A, s.c⟩) = costS S ∨ ¬ x.kids = s.x.kids := by
   intro S
   induction S with
   | nil => intro k s h; simp at h
   | cons q S ih =>
    intro k s h
    by_cases hxs : x.kids = s.x.kids
    ·left
     cases k with
     | zero => simp at h; subst h; simp [costS, nds, Tr.cost, hxs]
     | succ k =>
      simp at h
      rcases ih k s h with h1 | h1
      ·simp only [costS, nds, Tr.cost, List.set_cons_succ, List.map_cons, List.sum_cons] at h1 ⊢
       rw [h1]
      ·exact absurd hxs h1
    ·exact .inr hxs
  rcases e S k s hk with h1 | h1
  ·exact h1
  ·exact absurd hx h1
 refine ⟨⟨?_, ?_, by rw [hc]; exact h.most⟩, (Keeps.refl [b] w).grown hg (fun j hj => .inl (by injection hj with hj; subst hj; simp))⟩
 ·rw [hc]
  exact h.at_.grown hg (fun e => hne (by injection e))
 ·have := o8.1
  rw [flatS_set S k s x hk hx] at this
  rw [List.length_set]; exact this
set_option maxHeartbeats 1600000 in
theorem setN_any (k : Nat) (s : Sl) (x : Tr.Nd) (w : World) (B g mb : Nat) (v : Value) (S : List Sl) (hA : ArN w B g mb v S) (hk : S[k]? = some s) (hx : x.kids = s.x.kids) :
  Calls Tryz.prog 64 #[.pointer (some ⟨g, 0, none⟩), .int .i64 (k : Int), .agg (ndC x s.kv).toArray] w fun e w' => e = .returned (.bool true) ∧ ArN w' B g mb v (S.set k ⟨x, s.A, s.c⟩) ∧ Keeps v.ownBlock.toList w w' := by
 obtain ⟨W, hW⟩ : ∃ W, w.alloc (.cells (ndC x s.kv).toArray 91) = W := ⟨_, rfl⟩
 have hb : Below w.heap.size w W := by rw [← hW]; exact (Below.refl w.heap.size w).alloc (Nat.le_refl _) _
 have hR : At W w.heap.size 91 (ndC x s.kv).toArray := by rw [← hW]; exact At.new _ _ _
 have hA' := hA.below hb
 have HH := Lib.hid (hasN_any (k : Int) W B g mb v S hA')
 have hna := own_apart hA'.own hA'.at_ (by decide)
 obtain ⟨b, cap, rfl, hlt, h1, h2, h3, h4, hc, hf⟩ := hA'.shapeIn hk
 have hbw : b < w.heap.size := ((hA.own.lt b rfl).2)
 have hst := Lib.hid (hA'.stored hk rfl (fun e => hna (by rw [e]; rfl)) x hx)
 have c1 := hA'.at_.cell 1
 have hsz := hA'.size
 have ht : Tr.has (nds S) (k : Int) = true := Tr.has_of (by rw [nds_len]; exact hlt)
 rw [ht] at HH
 have y0 := hc 0 _ (by decide) rfl
 have y1 := hc 1 _ (by decide) rfl
 have y2 := hc 2 _ (by decide) rfl
 have y3 := hc 3 _ (by decide) rfl
 have y4 := hc 4 _ (by decide) rfl
 have y5 := hc 5 _ (by decide) rfl
 have y6 := hc 6 _ (by decide) rfl
 have y7 := hc 7 _ (by decide) rfl
 simp only [Nat.add_zero] at y0
 have r0 := hR.cell 0
 have r1 := hR.cell 1
 have r2 := hR.cell 2
 have r3 := hR.cell 3
 have r4 := hR.cell 4
 have r5 := hR.cell 5
 have r6 := hR.cell 6
 have r7 := hR.cell 7
 simp only [ndC, List.getElem?_toArray, List.getElem?_cons_zero, List.getElem?_cons_succ] at r0 r1 r2 r3 r4 r5 r6 r7
 have z0 := hf (k * 9)
 have z1 := hf (k * 9 + 1)
 have z2 := hf (k * 9 + 2)
 have z3 := hf (k * 9 + 3)
 have z4 := hf (k * 9 + 4)
 have z5 := hf (k * 9 + 5)
 have z6 := hf (k * 9 + 6)
 have z7 := hf (k * 9 + 7)
 obtain ⟨sa, kn, sc, hkv⟩ : ∃ sa kn sc, s.kv = .slice sa kn sc := ⟨_, _, _, rfl⟩
 rw [hkv] at y7 r7 hst
 have HX := Lib.hid (show ndC x s.kv = [.bool x.leaf, .bool x.under, .int .i64 x.rule, .int .i64 x.sym, .int .i64 x.tok.t, .int .i64 x.tok.a, .int .i64 x.tok.b, .slice sa kn sc] by rw [← hkv]; rfl)
 rw [HX.out] at hW
 have HB := Lib.hid hb
 have HW := Lib.hid hW
 have hki : (k : Int) < (S.length : Int) := by omega
 have hk0 : (0 : Int) ≤ (k : Int) := by omega
 clear hA hA' hk h2 h3 hc hf hR hb hW hna hx hkv
 simp at c1
 rw [HX.out]
 go_enter Tryz.func64, Tryz.ntmps64
 go_wp2_with fail
 rw [HW.out]
 refine HH.out.mono ?_
 rintro e w' ⟨rfl, rfl⟩
 go_wp2_with fail
 go_region
 go_wp2
 go_ret
 refine ⟨rfl, (by simpa using hst.out.1.drew), ?_⟩
 have hk1 : Keeps [b] w W := by rw [← HW.out]; exact (Keeps.refl _ w).alloc _
 simpa [Value.ownBlock] using (hk1.trans hst.out.2).drew
theorem step_append_own6 {P : Program} {ops : Array Oper} {o : Oper} {a : Act} {w : World} {K : Act → World → Prop} {Q : Exit → Act → World → Prop} {E : Prop}
  (hg : o.guard = none) (s x : Operand) (t : TypeId) (hop : o.op = Op.call { callee := Callee.builtin Builtin.append, args := #[s, x], argTypes := #[t, t] })
  (base : Nat) (e : TypeId) (i : TypeInfo) (z : Value) (size bytes : Nat) (h1 : P.underlying t = some (.slice e)) (h2 : P.info? e = some i) (h3 : i.zero = some z) (h4 : i.size = size) (h5 : i.bytes = bytes) (h6 : z.cells.size = size) (h7 : 0 < size)
  (v : Value) (n : Nat) (xs : List Value) (hs : a.eval s = v) (hown : w.ownsRow base e size v n xs)
  (ad : Addr) (m c : Nat) (news : List Value) (hx : a.eval x = .slice (some ad) m c) (hn : news.length = m * size) (hc : ∀ j u, news[j]? = some u → w.cell? (ad.add j) = some u) (h1c : ∀ u ∈ news, u.oneCell' = true)
  (b1 : n + m ≤ maxLen) (b2 : (n + m) * bytes ≤ 140737488355328) (b3 : base ≤ w.heap.size)
  (hK : ∀ v' w', w'.ownsRow base e size v' (n + m) (xs ++ news) → w.grownBy w' v.ownBlock → SameOrNew w v v' → K (a.put o.dst v') w') :
  if Region.wanted o (yielded ops a.tmps) = true then Oper.wp P o a w K Q else E := by
 have hw : Region.wanted o (yielded ops a.tmps) = true := by simp [Region.wanted, hg]
 rw [if_pos hw]
 obtain ⟨v', w', hr, r1, r2, r3⟩ := run_append_own2 (P := P) w base t o.type e i z size bytes h1 h2 h3 h4 h5 h6 h7 v n xs hown ad m c news hn hc h1c b1 b2 b3
 unfold Oper.wp
 simp [execOp, hop, resolve, invoke, builtin, hs, hx, hr, Result.andThen]
 exact hK _ _ r1 r2 r3
def tooMuch (l u n : Int) : Bool := decide (l - u < n)
set_option maxHeartbeats 4000000 in
theorem putN_no (s : Sl) (w : World) (B g mb : Nat) (v : Value) (S : List Sl) (l m : Int) (hA : ArN w B g mb v S) (hM : At w mb 87 #[.int .i64 l, .int .i64 (costS S), .int .i64 m])
  (hb : costS S ≤ l ∧ l ≤ 1099511627776) (hn : (s.x.kids.length : Int) ≤ 1000000) (hBw : B ≤ w.heap.size) (hno : l - costS S < 1 + (s.x.kids.length : Int)) :
  Calls Tryz.prog 62 #[.pointer (some ⟨g, 0, none⟩), .agg s.nd.toArray, .int .i64 (1 + (s.x.kids.length : Int))] w fun e w' => e = .returned (.tuple #[.int .i64 0, .int .i64 5]) ∧
   ArN w' B g mb v S ∧ At w' mb 87 #[.int .i64 l, .int .i64 (costS S), .int .i64 m] ∧ Keeps [mb] w w' := by
 have hc0 := costS_len S
 have HA := Lib.hid hA
 have HM := Lib.hid hM
 have hgm : g ≠ mb := by
  intro e
  have h1 := hA.at_
  have h2 := hM
  unfold At at h1 h2
  rw [← e, h1] at h2
  simp at h2
 have hvm := own_apart hA.own hM (by decide)
 obtain ⟨W, hW⟩ : ∃ W, w.alloc (.cells s.nd.toArray 91) = W := ⟨_, rfl⟩
 have hbw : Below w.heap.size w W := by rw [← hW]; exact (Below.refl w.heap.size w).alloc (Nat.le_refl _) _
 have hkw : Keeps [mb] w W := by rw [← hW]; exact (Keeps.refl _ w).alloc _
 have c0 := hA.at_.cell 0
 have hgl := hA.at_.lt
 have htk := Lib.hid (take_any mb l (costS S) m (1 + (s.x.kids.length : Int)) W (hM.below hbw hM.lt) ⟨by omega, hb.1, hb.2⟩ ⟨by omega, by omega⟩)
 have HW := Lib.hid hW
 have HKW := Lib.hid hkw
 have HAW := Lib.hid (hA.below hbw)
 have h1n : ¬ (1 + (s.x.kids.length : Int)) < 1 := by omega
 obtain ⟨n, hne⟩ : ∃ n, 1 + (s.x.kids.length : Int) = n := ⟨_, rfl⟩
 rw [hne] at htk hno h1n ⊢
 have hlit : s.nd = [.bool s.x.leaf, .bool s.x.under, .int .i64 s.x.rule, .int .i64 s.x.sym, .int .i64 s.x.tok.t, .int .i64 s.x.tok.a, .int .i64 s.x.tok.b, .slice s.A s.x.kids.length s.c] := rfl
 rw [hlit] at HW ⊢
 have HNO := Lib.hid hno
 obtain ⟨q1, q2, q3⟩ := take_big (l := l) (u := costS S) (m := m) (n := n) (by omega) hno
 rw [q1, q2, q3] at htk
 clear hA hM hW hbw hkw hne hno hlit q1 q2 q3
 simp at c0
 go_enter Tryz.func62, Tryz.ntmps62
 go_wp2_with fail
 rw [HW.out]
 refine htk.out.mono ?_
 rintro e w1 ⟨rfl, hT⟩
 have HT := Lib.hid hT
 clear hT
 go_wp2
 go_ret2
 refine ⟨rfl, ⟨HT.out.other HAW.out.at_ hgm, own_keeps HAW.out.own ((Keeps.refl [mb] W).turns HT.out (.inl (by simp))) ?_, HA.out.most⟩, HT.out.at_, HKW.out.turns HT.out (.inl (by simp))⟩
 intro k hk' hm
 simp at hm
 exact hvm (by rw [hk', hm])
set_option maxHeartbeats 8000000 in
theorem putN_yes (s : Sl) (w : World) (B g mb : Nat) (v : Value) (S : List Sl) (l m : Int) (hA : ArN w B g mb v S) (hM : At w mb 87 #[.int .i64 l, .int .i64 (costS S), .int .i64 m])
  (hb : costS S ≤ l ∧ l ≤ 1099511627776) (hn : (s.x.kids.length : Int) ≤ 1000000) (hBw : B ≤ w.heap.size) (hyes : 1 + (s.x.kids.length : Int) ≤ l - costS S) :
  Calls Tryz.prog 62 #[.pointer (some ⟨g, 0, none⟩), .agg s.nd.toArray, .int .i64 (1 + (s.x.kids.length : Int))] w fun e w' => e = .returned (.tuple #[.int .i64 (S.length : Int), .int .i64 0]) ∧
   ∃ v' m', ArN w' B g mb v' (S ++ [s]) ∧ At w' mb 87 #[.int .i64 l, .int .i64 (costS (S ++ [s])), .int .i64 m'] ∧ Keeps (g :: mb :: v.ownBlock.toList) w w' := by
 have hc0 := costS_len S
 have hcost : costS (S ++ [s]) = costS S + (1 + (s.x.kids.length : Int)) := by unfold costS nds; rw [List.map_append, Tr.cost_append]; congr 1
 have HCO := Lib.hid hcost
 have hgm : g ≠ mb := by
  intro e
  have h1 := hA.at_
  have h2 := hM
  unfold At at h1 h2
  rw [← e, h1] at h2
  simp at h2
 have hvg := own_apart hA.own hA.at_ (by decide)
 have hvm := own_apart hA.own hM (by decide)
 obtain ⟨ao, cap, rfl⟩ := hA.shape
 obtain ⟨W, hW⟩ : ∃ W, w.alloc (.cells s.nd.toArray 91) = W := ⟨_, rfl⟩
 have hbw : Below w.heap.size w W := by rw [← hW]; exact (Below.refl w.heap.size w).alloc (Nat.le_refl _) _
 have hkw : Keeps (g :: mb :: (Value.slice ao S.length cap).ownBlock.toList) w W := by rw [← hW]; exact (Keeps.refl _ w).alloc _
 have hR : At W w.heap.size 91 s.nd.toArray := by rw [← hW]; exact At.new _ _ _
 have c0 := hA.at_.cell 0
 have htk := take_any mb l (costS S) m (1 + (s.x.kids.length : Int)) W (hM.below hbw hM.lt) ⟨by omega, hb.1, hb.2⟩ ⟨by omega, by omega⟩
 obtain ⟨q1, q2⟩ := take_ok (l := l) (u := costS S) (n := 1 + (s.x.kids.length : Int)) (by omega) hyes
 rw [q1, q2] at htk
 have hgM : ∀ w1, Turns W w1 mb 87 #[.int .i64 l, .int .i64 (costS S + (1 + (s.x.kids.length : Int))), .int .i64 (takeMost l (costS S) m (1 + (s.x.kids.length : Int)))] → At w1 g 128 #[.pointer (some ⟨mb, 0, none⟩), .slice ao S.length cap, .int .i64 (costS S)] ∧ w1.ownsRow B 139 9 (.slice ao S.length cap) S.length (flatS S) := fun w1 hT =>
  ⟨hT.other (hA.at_.below hbw hA.at_.lt) hgm, own_keeps (own_below hA.own hbw (fun k hk => (hA.own.lt k hk).2)) ((Keeps.refl [mb] W).turns hT (.inl (by simp))) (by
   intro k hk' hm
   simp at hm
   exact hvm (by rw [hk', hm]))⟩
 have hws := hbw.size
 have hmb : mb < w.heap.size := hM.lt
 have hgb : g < w.heap.size := hA.at_.lt
 have hsz := hA.size
 have hlit : s.nd = [.bool s.x.leaf, .bool s.x.under, .int .i64 s.x.rule, .int .i64 s.x.sym, .int .i64 s.x.tok.t, .int .i64 s.x.tok.a, .int .i64 s.x.tok.b, .slice s.A s.x.kids.length s.c] := rfl
 have hcl : s.cells = [.bool s.x.leaf, .bool s.x.under, .int .i64 s.x.rule, .int .i64 s.x.sym, .int .i64 s.x.tok.t, .int .i64 s.x.tok.a, .int .i64 s.x.tok.b, .slice s.A s.x.kids.length s.c, .int .i64 (1 + (s.x.kids.length : Int))] := rfl
 have hwr : ∀ n : Int, costS S + n ≤ 1099511627776 → 0 ≤ costS S + n → IntKind.i64.wrap (costS S + n) = costS S + n := fun n h1 h2 => by rw [IntKind.wrap_i64]; omega
 rw [hlit] at hW hR ⊢
 obtain ⟨N, hN⟩ : ∃ N, S.length = N := ⟨_, rfl⟩
 obtain ⟨KN, hKN⟩ : ∃ KN, s.x.kids.length = KN := ⟨_, rfl⟩
 obtain ⟨n, hne⟩ : ∃ n : Int, 1 + (s.x.kids.length : Int) = n := ⟨_, rfl⟩
 have hapN : flatS (S ++ [s]) = flatS S ++ s.cells := by simp [flatS]
 have HAP := Lib.hid hapN
 rw [hne] at hcl hgM htk hyes HCO ⊢
 rw [hN] at hgM hsz hvg hvm hkw hc0 ⊢
 rw [hKN] at hW hR hcl hn ⊢
 have h1n : ¬ n < 1 := by omega
 have hn2 : n ≤ 1000001 := by omega
 have hw1 : costS S + n ≤ 1099511627776 := by omega
 have hw0 : 0 ≤ costS S + n := by omega
 have hwn := hwr n hw1 hw0
 have HN := Lib.hid hN
 have HCL := Lib.hid hcl
 have HKW := Lib.hid hkw
 have HRW := Lib.hid hR
 have HW := Lib.hid hW
 have HTK := Lib.hid htk
 have HGM := Lib.hid hgM
 have HN0 := Lib.hid hN
 obtain ⟨M2, hM2⟩ : ∃ M2, takeMost l (costS S) m n = M2 := ⟨_, rfl⟩
 rw [hM2] at HTK HGM
 clear hA hM hW hbw hkw hne hyes hlit q1 q2 hcost hR htk hgM hcl hN hKN hapN hwr hM2
 obtain ⟨CS, hCS⟩ : ∃ CS, costS S = CS := ⟨_, rfl⟩
 rw [hCS] at HTK HGM HCO hwn hw1 hw0 hc0
 clear hCS hb
 simp at c0
 go_enter Tryz.func62, Tryz.ntmps62
 go_wp2_with fail
 rw [HW.out]
 refine HTK.out.mono ?_
 rintro e w1 ⟨rfl, hT⟩
 have HT := Lib.hid hT
 obtain ⟨hG1, hO1⟩ := HGM.out w1 hT
 have hR1 : At w1 w.heap.size 91 _ := hT.other HRW.out (by omega)
 have hsw := hT.size
 have HG1 := Lib.hid hG1
 have HO1 := Lib.hid hO1
 have d1 := hG1.cell 1
 have d2 := hG1.cell 2
 have r0 := hR1.cell 0
 have r1 := hR1.cell 1
 have r2 := hR1.cell 2
 have r3 := hR1.cell 3
 have r4 := hR1.cell 4
 have r5 := hR1.cell 5
 have r6 := hR1.cell 6
 have r7 := hR1.cell 7
 simp at d1 d2 r0 r1 r2 r3 r4 r5 r6 r7
 obtain ⟨i0, hi, hz0, hz1, hz2⟩ := info_parts infoSlot
 have c1a : ∀ o, (w1.alloc o).cell? ⟨g, 1, none⟩ = some (.slice ao N cap) := fun o => by
  have := (HG1.out.alloc o).cell 1
  simpa using this
 have KW1 := Lib.hid (HKW.out.turns HT.out (.inl (by simp)))
 have hB1 : B ≤ w1.heap.size := by omega
 have hl1 : w1.heap.size ≥ w.heap.size := by omega
 clear hT hG1 hO1 hR1
 go_wp2_with fail
 go_region_law (refine step_append_own6 rfl _ _ 126 rfl B 139 i0 _ 9 80 Tryz.underlying126 hi hz0 hz1 hz2 rfl (by decide) _ _ _ rfl (HO1.out.drew.alloc _) ⟨w1.heap.size, 0, none⟩ 1 1 [.bool s.x.leaf, .bool s.x.under, .int .i64 s.x.rule, .int .i64 s.x.sym, .int .i64 s.x.tok.t, .int .i64 s.x.tok.a, .int .i64 s.x.tok.b, .slice s.A KN s.c, .int .i64 n] rfl rfl (cells_new _ _ _) (by simp [Value.oneCell']) (by unfold maxLen; omega) (by omega) (by simp; omega) ?_; intro v' w8 hown8 hg8 hn8; obtain ⟨a8, s8, rfl⟩ := own_form hown8; have hA8 := At.grown (HG1.out.drew.alloc _) hg8 (fun e => hvg e.symm); have q1 := hA8.cell 1; have q2 := hA8.cell 2; have qf := hA8.frozen; simp only [List.getElem?_toArray, List.getElem?_cons_zero, List.getElem?_cons_succ] at q1 q2)
 all_goals
  have hg9 : (w1.alloc (.cells #[.bool s.x.leaf, .bool s.x.under, .int .i64 s.x.rule, .int .i64 s.x.sym, .int .i64 s.x.tok.t, .int .i64 s.x.tok.a, .int .i64 s.x.tok.b, .slice s.A KN s.c, .int .i64 n] 139)).drew.grownBy w8 (Value.slice ao N cap).ownBlock := hg8
  have hM8 : At w8 mb 87 #[.int .i64 l, .int .i64 (CS + n), .int .i64 M2] := ((HT.out.at_.alloc _).drew).grown hg9 (fun e => hvm e.symm)
  have K8 : Keeps (g :: mb :: (Value.slice ao N cap).ownBlock.toList) w w8 := ((KW1.out.alloc _).drew).grown hg9 (fun k hk => .inl (by simp [hk]))
  have HA8 := Lib.hid hA8
  have HM8 := Lib.hid hM8
  have HK8 := Lib.hid K8
  have HO8 := Lib.hid hown8
  have z1 := qf 1
  have z2 := qf 2
  have hva8 := own_apart hown8 hA8 (by decide)
  clear hg8 hg9 hown8 hA8 hM8 K8 hn8 qf d1 d2 c1a
  go_wp2_with fail
  go_ret2
  refine ⟨?_, .slice a8 (N + 1) s8, M2, ⟨?_, ?_, by rw [HCO.out]; exact hw1⟩, ?_, ?_⟩
  ·congr 4 <;> omega
  ·rw [HCO.out]
   exact ((HA8.out.set 1 _).set 2 _).eqs (by simp)
  ·rw [HAP.out, List.length_append, HN.out, HCL.out]
   exact own_keeps HO8.out (((Keeps.refl [g] w8).set (.inl (by simp)) _).set (.inl (by simp)) _) (fun k hk hm => hva8 (by simp at hm; rw [hk, hm]))
  ·rw [HCO.out]
   exact (HM8.out.far (by simpa using hgm.symm) _).far (by simpa using hgm.symm) _
  ·exact (HK8.out.set (.inl (by simp)) _).set (.inl (by simp)) _
end Go.Proofs.YtdhhkancbgealaaGreat
