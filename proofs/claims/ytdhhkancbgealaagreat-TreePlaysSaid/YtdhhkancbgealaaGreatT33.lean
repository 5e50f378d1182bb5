import Derived.Test.YtdhhkancbgealaaGreatT32
import Derived.Test.YtdhhkancbgealaaGreatT30
import Derived.Test.YtdhhkancbgealaaGreatT18
namespace Go.Proofs.YtdhhkancbgealaaGreat
open Go.RowKit Go.Shelf
open Lx
set_option linter.unusedVariables false
set_option linter.unusedSimpArgs false
set_option maxRecDepth 100000
set_option maxHeartbeats 4000000 in
theorem inL_any (A : Option Addr) (n c : Nat) (l : List Int) (x : Int) (w : World) (hn : l.length = n) (h : Cl w w.heap.size A (vals l)) (hN : n ≤ 1000000000) :
  Calls Tryz.prog 70 #[.slice A n c, .int .i64 x] w fun e w' => e = .returned (.bool (decide (x ∈ l))) ∧ ∃ k, w' = w.drewN k := by
 have H := Lib.hid h
 have HN := Lib.hid hn
 obtain ⟨Q, hQ⟩ : ∃ Q : Bool, decide (x ∈ l) = Q := ⟨_, rfl⟩
 rw [hQ]
 have HQ := Lib.hid hQ
 clear h hn hQ
 go_enter Tryz.func70, Tryz.ntmps70
 go_wp2_with fail
 go_loopw [5] (fun i wr => ∃ j : Nat, j ≤ n ∧ i = .int .i64 (j : Int) ∧ x ∉ l.take j ∧ ∃ m, wr = w.drewN m) (fun i _ => n - (intOf i).toNat)
 case atStart => exact ⟨0, by omega, rfl, by simp, 0, rfl⟩
 case round =>
  obtain ⟨j, hj, rfl, he, m, rfl⟩ := hrel
  have HE := Lib.hid he
  clear he
  by_cases hlt : j < n
  ·obtain ⟨y, hy⟩ : ∃ y, l[j]? = some y := ⟨_, List.getElem?_eq_getElem (by rw [HN.out]; exact hlt)⟩
   obtain ⟨b1, o1, rfl, hbl1, e1⟩ := cl_at H.out hy
   have HY := Lib.hid hy
   have hji : (j : Int) < (n : Int) := by omega
   have hj0 : (0 : Int) ≤ (j : Int) := by omega
   clear hy
   cases hb : (y == x)
   ·go_wp2_with fail
    go_roundw
    case rel =>
     refine ⟨j + 1, by omega, by go_num, ?_, _, rfl⟩
     rw [take_snocT HY.out, List.mem_append]
     rintro (h | h)
     ·exact HE.out h
     ·simp at h hb; exact hb h.symm
    case measure => simp [intOf]; omega
   ·have hq : Q = true := by
     rw [← HQ.out]
     refine decide_eq_true ?_
     have : y = x := by simpa using hb
     rw [← this]; exact List.mem_of_getElem? HY.out
    subst hq
    go_wp2_with fail
    go_ret
    exact ⟨rfl, _, rfl⟩
  ·obtain rfl : j = n := by omega
   have hq : Q = false := by
    rw [← HQ.out]
    have h5 := HE.out
    rw [List.take_of_length_le (by rw [HN.out]; exact Nat.le_refl _)] at h5
    exact decide_eq_false h5
   subst hq
   clear hlt
   go_wp2_with fail
   go_ret
   exact ⟨rfl, _, rfl⟩
theorem flatR_set (S : List Sl) (k : Nat) (s : Sl) (h : S[k]? = some s) : (flatR S).set (k * 8 + 7) (.bool true) = flatR (S.set k s.low) := by
 induction S generalizing k with
 | nil => simp at h
 | cons q S ih =>
  cases k with
  | zero => simp at h; subst h; rfl
  | succ k =>
   simp at h
   have := ih k h
   show (q.rc ++ flatR S).set ((k + 1) * 8 + 7) (.bool true) = q.rc ++ flatR (S.set k s.low)
   rw [← this, List.set_append_right _ _ (by rw [Sl.rc_len, Nat.add_mul]; omega), Sl.rc_len, show (k + 1) * 8 + 7 - 8 = k * 8 + 7 by rw [Nat.add_mul]; omega]
structure RefU (w : World) (B rt rm : Nat) (l u m : Int) (v : Value) (S : List Sl) : Prop where
 at_ : At w rt 47 #[.pointer (some ⟨rm, 0, none⟩), v]
 own : w.ownsRow B 56 8 v S.length (flatR S)
 low : B ≤ rt ∧ B ≤ rm
 meter : At w rm 44 #[.int .i64 l, .int .i64 u, .int .i64 m]
 kids : ∀ s ∈ S, Lie w 3 s.A (vals s.x.kids)
 len : ∀ s ∈ S, s.x.kids.length ≤ 1000000
theorem RefU.stored {w : World} {B rt rm b cap k : Nat} {l u m : Int} {S : List Sl} {s : Sl} (h : RefU w B rt rm l u m (.slice (some ⟨b, 0, none⟩) S.length cap) S) (hk : S[k]? = some s) :
  RefU (w.setCell ⟨b, k * 8 + 7, none⟩ (.bool true)) B rt rm l u m (.slice (some ⟨b, 0, none⟩) S.length cap) (S.set k s.low) ∧ Spares refT w (w.setCell ⟨b, k * 8 + 7, none⟩ (.bool true)) ∧ B ≤ b := by
 have o1 := h.own.stored (k * 8 + 7) (.bool true)
 have hb : ∀ t cs, At w b t cs → t = 56 := fun t cs hh => own_type h.own (g := b) rfl hh
 have hk1 : Keeps [b] w (w.setCell ⟨b, k * 8 + 7, none⟩ (.bool true)) := (Keeps.refl [b] w).set (.inl (by simp)) _
 have hs : Spares [56] w (w.setCell ⟨b, k * 8 + 7, none⟩ (.bool true)) := hk1.spares (fun q hq cs t hh => by
  simp at hq; subst hq
  rw [hb _ _ hh]; simp)
 have hs2 : Spares refT w (w.setCell ⟨b, k * 8 + 7, none⟩ (.bool true)) := hk1.spares (fun q hq cs t hh => by
  simp at hq; subst hq
  rw [hb _ _ hh]; simp [refT])
 refine ⟨⟨h.at_.spares hs (by decide), ?_, h.low, h.meter.spares hs (by decide), fun q hq => ?_, fun q hq => ?_⟩, hs2, (h.own.lt b rfl).1⟩
 ·have := o1.1
  rw [flatR_set S k s hk] at this
  rw [List.length_set]; exact this
 ·rcases List.mem_or_eq_of_mem_set hq with hq | rfl
  ·exact (h.kids q hq).stay (stay_spares hs (by decide))
  ·exact (h.kids s (List.mem_of_getElem? hk)).stay (stay_spares hs (by decide))
 ·rcases List.mem_or_eq_of_mem_set hq with hq | rfl
  ·exact h.len q hq
  ·exact h.len s (List.mem_of_getElem? hk)
theorem RefU.below {w w' : World} {B rt rm : Nat} {l u m : Int} {v : Value} {S : List Sl} (h : RefU w B rt rm l u m v S) (hb : Below w.heap.size w w') : RefU w' B rt rm l u m v S :=
 ⟨h.at_.below hb h.at_.lt, own_below h.own hb (fun k hk => (h.own.lt k hk).2), h.low, h.meter.below hb h.meter.lt, fun s hs => (h.kids s hs).below hb, h.len⟩
theorem RefU.cells {w : World} {B rt rm k : Nat} {l u m : Int} {v : Value} {S : List Sl} {s : Sl} (h : RefU w B rt rm l u m v S) (hk : S[k]? = some s) :
  ∃ b cap, v = .slice (some ⟨b, 0, none⟩) S.length cap ∧ k < S.length ∧ b < w.heap.size ∧ (∀ r u, r < 8 → s.rc[r]? = some u → w.cell? ⟨b, k * 8 + r, none⟩ = some u) ∧ ∀ j, w.frozen? ⟨b, j, none⟩ = false := by
 have hlt : k < S.length := (List.getElem?_eq_some_iff.1 hk).1
 rcases own_shape h.own with ⟨rfl, e, _⟩ | ⟨b, cap, rfl, h1, h2, h3, h4⟩
 ·omega
 ·refine ⟨b, cap, rfl, hlt, h4, ?_, fun j => h.own.frozenAt j⟩
  intro r u hr hu
  rw [h.own.cellAt (k * 8 + r) (by omega), flatR_at hk hr]; exact hu
theorem RefIs.u {w : World} {B rt rm : Nat} {l m : Int} {v : Value} {S : List Sl} (h : RefIs w B rt rm l m v S) : RefU w B rt rm l (costS S) m v S := ⟨h.at_, h.own, h.low, h.meter, h.kids, h.len⟩
theorem RefU.took {w w1 : World} {B rt rm : Nat} {l u m u' m' : Int} {v : Value} {S : List Sl} (h : RefU w B rt rm l u m v S) (hT : Turns w w1 rm 44 #[.int .i64 l, .int .i64 u', .int .i64 m']) (hB : B ≤ w.heap.size) :
  RefU w1 B rt rm l u' m' v S ∧ Spares refT w w1 ∧ Below B w w1 := by
 have hrm : rt ≠ rm := by
  intro e
  have h1 := h.at_
  have h2 := h.meter
  unfold At at h1 h2
  rw [← e, h1] at h2
  simp at h2
 have hvm := own_apart h.own h.meter (by decide)
 have hk : Keeps [rm] w w1 := (Keeps.refl [rm] w).turns hT (.inl (by simp))
 exact ⟨⟨hT.other h.at_ hrm, own_keeps h.own hk (fun k hk' hm => by simp at hm; exact hvm (by rw [hk', hm])), h.low, hT.at_, fun s hs => (h.kids s hs).stay (Stay.far h.meter (by decide) hT.grown), h.len⟩,
  hk.spares (fun q hq cs t hh => by
   simp at hq; subst hq
   rw [h.meter.type hh]; simp [refT]), hk.below (fun x hx => by simp at hx; subst hx; exact h.low.2) hB⟩
theorem own_noneT (w : World) (t : TypeId) (size : Nat) : (w.alloc (.cells #[] t)).ownsRow w.heap.size t size (.slice (some ⟨w.heap.size, 0, none⟩) 0 0) 0 [] := own_none9 w t size
theorem vals_lenT (l : List Int) : (vals l).length = l.length := by simp [vals]
theorem vals_oneT (l : List Int) : ∀ u ∈ vals l, u.oneCell' = true := fun u hu => by
 obtain ⟨x, _, rfl⟩ := List.mem_map.1 hu; rfl
theorem spares_belowT {w w' : World} (h : Below w.heap.size w w') (ts : List TypeId) : Spares ts w w' := ⟨h.size, fun k cs t _ hk => (h.block k (Array.getElem?_eq_some_iff.1 hk).1).trans hk⟩
def LiesT (w : World) (A : Option Addr) (news : List Value) : Prop := ∀ j u, news[j]? = some u → ∃ ad, A = some ad ∧ w.cell? (ad.add j) = some u
theorem LiesT_lie {w : World} {t : TypeId} {A : Option Addr} {l : List Value} (h : Lie w t A l) : LiesT w A l := fun j u hu => by
 obtain ⟨b, o, e, _, hc⟩ := h.cell (by intro e; rw [e] at hu; simp at hu)
 exact ⟨_, e, by
  have h5 := hc j u hu
  by_cases h0 : j = 0
  ·subst h0; simpa [Addr.add] using h5
  ·simpa [Addr.add, h0] using h5⟩
theorem spares_grownT {a w w' : World} {ts : List TypeId} {row : Option Nat} (h : Spares ts a w) (hg : w.grownBy w' row) (hr : ∀ q, row = some q → ∀ cs t, At w q t cs → t ∈ ts) : Spares ts a w' := ⟨Nat.le_trans h.size hg.size, fun k cs t ht hk => by
 have h1 := h.block k cs t ht hk
 rw [hg.block k (Array.getElem?_eq_some_iff.1 h1).1 (fun e => ht (hr k e.symm cs t h1))]
 exact h1⟩
section
variable {P : Program} (w : World)
theorem run_append_noneT (base : Nat) (t ty e : TypeId) (i : TypeInfo) (size : Nat) (ht : P.underlying t = some (.slice e)) (hi : P.info? e = some i)
  (v : Value) (n : Nat) (xs : List Value) (hown : w.ownsRow base e size v n xs) (c : Nat) : (Builtin.append_ #[t, t] ty #[v, .slice none 0 c]).run P w = .ok v w := by
 rcases own_shape hown with ⟨rfl, _, _⟩ | ⟨g, cap, rfl, hnc, _⟩
 ·simp [Builtin.append_, run_underlying ht, sizeOf, typeInfo, hi, Builtin.lenOf, Builtin.firstCells]
 ·simp [Builtin.append_, run_underlying ht, sizeOf, typeInfo, hi, Builtin.lenOf, Builtin.firstCells, hnc, storeCells]
theorem run_append_own3T (base : Nat) (t ty e : TypeId) (i : TypeInfo) (z : Value) (size bytes : Nat) (ht : P.underlying t = some (.slice e)) (hi : P.info? e = some i) (hz : i.zero = some z)
  (hsize : i.size = size) (hby : i.bytes = bytes) (hzs : z.cells.size = size) (hsz : 0 < size)
  (v : Value) (n : Nat) (xs : List Value) (hown : w.ownsRow base e size v n xs)
  (A : Option Addr) (m c : Nat) (news : List Value) (hl : news.length = m * size) (hnews : LiesT w A news) (h1 : ∀ u ∈ news, u.oneCell' = true)
  (h63 : n + m ≤ maxLen) (hbytes : (n + m) * bytes ≤ 140737488355328) (hbase : base ≤ w.heap.size) :
  ∃ v' w', (Builtin.append_ #[t, t] ty #[v, .slice A m c]).run P w = .ok v' w' ∧ w'.ownsRow base e size v' (n + m) (xs ++ news) ∧ w.grownBy w' v.ownBlock ∧ SameOrNew w v v' := by
 cases A with
 | some ad =>
  refine run_append_own2 (P := P) w base t ty e i z size bytes ht hi hz hsize hby hzs hsz v n xs hown ad m c news hl (fun j u hj => ?_) h1 h63 hbytes hbase
  obtain ⟨ad', he, hc⟩ := hnews j u hj
  injection he with he
  rw [he]; exact hc
 | none =>
  have hn : news = [] := by
   cases news with
   | nil => rfl
   | cons u l => obtain ⟨_, he, _⟩ := hnews 0 u rfl; cases he
  subst hn
  have hm : m = 0 := by
   rcases Nat.eq_zero_or_pos m with h | h
   ·exact h
   ·have := Nat.mul_pos h hsz; simp at hl; omega
  subst hm
  exact ⟨v, w, run_append_noneT w base t ty e i size ht hi v n xs hown c, by simpa using hown, grown_refl w _, SameOrNew.refl w v⟩
theorem step_append_own4T {ops : Array Oper} {o : Oper} {a : Act} {K : Act → World → Prop} {Q : Exit → Act → World → Prop} {E : Prop}
  (hw : Region.wanted o (yielded ops a.tmps) = true) (s x : Operand) (t : TypeId) (hop : o.op = Op.call { callee := Callee.builtin Builtin.append, args := #[s, x], argTypes := #[t, t] })
  (base : Nat) (e : TypeId) (i : TypeInfo) (z : Value) (size bytes : Nat) (h1 : P.underlying t = some (.slice e)) (h2 : P.info? e = some i) (h3 : i.zero = some z) (h4 : i.size = size) (h5 : i.bytes = bytes) (h6 : z.cells.size = size) (h7 : 0 < size)
  (v : Value) (n : Nat) (xs : List Value) (hs : a.eval s = v) (hown : w.ownsRow base e size v n xs)
  (A : Option Addr) (m c : Nat) (news : List Value) (hx : a.eval x = .slice A m c) (hn : news.length = m * size) (hc : LiesT w A news) (h1c : ∀ u ∈ news, u.oneCell' = true)
  (b1 : n + m ≤ maxLen) (b2 : (n + m) * bytes ≤ 140737488355328) (b3 : base ≤ w.heap.size)
  (hK : ∀ v' w', w'.ownsRow base e size v' (n + m) (xs ++ news) → w.grownBy w' v.ownBlock → SameOrNew w v v' → K (a.put o.dst v') w') :
  if Region.wanted o (yielded ops a.tmps) = true then Oper.wp P o a w K Q else E := by
 rw [if_pos hw]
 obtain ⟨v', w', hr, r1, r2, r3⟩ := run_append_own3T (P := P) w base t o.type e i z size bytes h1 h2 h3 h4 h5 h6 h7 v n xs hown A m c news hn hc h1c b1 b2 b3
 unfold Oper.wp
 simp [execOp, hop, resolve, invoke, builtin, hs, hx, hr, Result.andThen]
 exact hK _ _ r1 r2 r3
end
theorem LiesT_cl {w : World} {B : Nat} {A : Option Addr} {l : List Value} (h : Cl w B A l) : LiesT w A l := fun j u hu => by
 obtain ⟨b, o, e, _, hc⟩ := h.ex (by intro e; rw [e] at hu; simp at hu)
 exact ⟨_, e, by
  have h5 := hc j u hu
  by_cases h0 : j = 0
  ·subst h0; simpa [Addr.add] using h5
  ·simpa [Addr.add, h0] using h5⟩
theorem Cl.takeT {w : World} {B : Nat} {A : Option Addr} {l : List Int} (h : Cl w B A (vals l)) (j : Nat) : Cl w B A (vals (l.take j)) :=
 ⟨fun hn => by
  obtain ⟨b, o, e, h1, h2⟩ := h.ex (fun e => hn (by cases l <;> simp_all [vals]))
  refine ⟨b, o, e, h1, fun i u hu => h2 i u ?_⟩
  have e2 : vals (l.take j) = (vals l).take j := by simp [vals, List.map_take]
  rw [e2, List.getElem?_take] at hu
  split at hu
  ·exact hu
  ·cases hu⟩
theorem Lie.take {w : World} {t : TypeId} {A : Option Addr} {l : List Int} (h : Lie w t A (vals l)) (j : Nat) : Lie w t A (vals (l.take j)) :=
 ⟨fun hn => by
  obtain ⟨b, o, cs, e, h1, h2⟩ := h.ex (fun e => hn (by cases l <;> simp_all [vals]))
  refine ⟨b, o, cs, e, h1, fun i u hu => h2 i u ?_⟩
  have e2 : vals (l.take j) = (vals l).take j := by simp [vals, List.map_take]
  rw [e2, List.getElem?_take] at hu
  split at hu
  ·exact hu
  ·cases hu⟩
theorem cut_hiT (ao : Option Addr) (n k cap : Nat) (hk : k ≤ cap) (w : World) :
  (Instr.slice 32 (.slice ao n cap) none (some (.int .i64 (k : Int))) none).run Tryz.prog w = .ok (.slice ao k cap) w := by
 have hs : (Go.sizeOf (Tryz.prog.elem 32)).run Tryz.prog w = .ok 1 w := by kernel_rfl
 rw [run_slice_h (P := Tryz.prog) w 32 ao n cap Tryz.underlying32 .i64 (k : Int) (by omega) (by omega), hs]
 cases ao <;> simp [Result.andThen, sliced, Addr.add]
theorem has_nat {L : List Tr.Nd} {x : Int} (h : Tr.has L x = true) : ∃ k : Nat, x = (k : Int) ∧ k < L.length := by
 have := Tr.has_true h
 exact ⟨x.toNat, by omega, by omega⟩
set_option maxHeartbeats 16000000 in
theorem rnode_any (rule sym : Int) (A : Option Addr) (n c : Nat) (ks : List Int) (w : World) (B rt rm : Nat) (l m : Int) (v : Value) (S : List Sl) (h : RefIs w B rt rm l m v S) (hB : B ≤ w.heap.size) (hl : ks.length = n) (hKS : ∀ w', Spares refT w w' → Below B w w' → Cl w' w'.heap.size A (vals ks)) (hn : n ≤ 1000000) (hcap : n ≤ c) :
  Calls Tryz.prog 43 #[.pointer (some ⟨rt, 0, none⟩), .int .i64 rule, .int .i64 sym, .slice A n c] w fun e w' => e = .returned (.tuple #[.int .i64 (Tr.node l (nds S) rule sym ks).n, .int .i64 (Tr.node l (nds S) rule sym ks).e]) ∧ RDone w w' B rt rm l (Tr.node l (nds S) rule sym ks).L := by
 obtain ⟨ao, cap, rfl⟩ := own_form h.own
 have c0 := h.at_.cell 0
 have c1 := h.at_.cell 1
 simp only [List.getElem?_toArray, List.getElem?_cons_zero, List.getElem?_cons_succ] at c0 c1
 have hszS := h.size
 have HT := Lib.hid h
 have hL := hKS w (Spares.refl _ _) (Below.refl _ _)
 have HKS := Lib.hid hKS
 clear hKS
 have HL := Lib.hid hL
 have HLEN := Lib.hid hl
 have HC := Lib.hid (fun (k : Nat) (s : Sl) (hk : S[k]? = some s) => h.cells hk)
 obtain ⟨AN, hAN⟩ : ∃ x, Tr.node l (nds S) rule sym ks = x := ⟨_, rfl⟩
 rw [hAN]
 have HAN := Lib.hid hAN
 obtain ⟨N, hN⟩ : ∃ N, S.length = N := ⟨_, rfl⟩
 rw [hN] at c1 hszS HC
 have HN := Lib.hid hN
 have HDR := Lib.hid (show ∀ q, RDone w (w.drewN q) B rt rm l (nds S) from fun q => ⟨⟨m, _, S, h.below (below_drewN (Below.refl _ _) q), rfl⟩, ⟨by simp, fun k cs t _ hk => hk⟩, below_drewN (Below.refl _ _) q⟩)
 clear h hL hl hAN hN
 go_enter Tryz.func43, Tryz.ntmps43
 go_wp2_with fail
 go_loopw [10] (fun i wr => ∃ j : Nat, j ≤ n ∧ i = .int .i64 (j : Int) ∧ (∀ k ∈ ks.take j, Tr.has (nds S) k = true) ∧ ∃ q, wr = w.drewN q) (fun i _ => n - (intOf i).toNat)
 case atStart => exact ⟨0, by omega, rfl, by simp, 0, rfl⟩
 case round =>
  obtain ⟨j, hj, rfl, hh, q, rfl⟩ := hrel
  have HH := Lib.hid hh
  clear hh
  by_cases hlt : j < n
  ·obtain ⟨x, hx⟩ : ∃ x, ks[j]? = some x := ⟨_, List.getElem?_eq_getElem (by rw [HLEN.out]; exact hlt)⟩
   obtain ⟨b, o, rfl, hbl, hc⟩ := cl_at HL.out hx
   have HX := Lib.hid hx
   have hji : (j : Int) < (n : Int) := by omega
   have hj0 : (0 : Int) ≤ (j : Int) := by omega
   clear hx
   cases hx1 : Tr.has (nds S) x with
   | true =>
    have h2 := Tr.has_true hx1
    rw [nds_len, HN.out] at h2
    have h3 : ¬ x < 0 := by omega
    have h4 : ¬ (N : Int) ≤ x := by omega
    have HX1 := Lib.hid hx1
    clear hx1 h2
    go_wp2_with fail
    go_quiet (fail)
    go_wp2_with fail
    go_roundw
    case rel =>
     refine ⟨j + 1, by omega, by go_num, fun k hk => ?_, _, rfl⟩
     rw [take_snocT HX.out] at hk
     rcases List.mem_append.1 hk with hk | hk
     ·exact HH.out k hk
     ·simp at hk; subst hk; exact HX1.out
    case measure => simp [intOf]; omega
   | false =>
    have h2 := Tr.has_false hx1
    rw [nds_len, HN.out] at h2
    have hw : Tr.wrong (nds S) ks = 2 := by
     unfold Tr.wrong
     rw [if_pos]
     exact List.any_eq_true.2 ⟨x, List.mem_of_getElem? HX.out, by rw [hx1]; rfl⟩
    have HA := Lib.hid (show AN = ⟨0, 2, nds S⟩ by rw [← HAN.out]; unfold Tr.node; rw [if_neg (by rw [hw]; decide), hw])
    clear hx1 hw
    by_cases h3 : x < 0
    ·go_wp2_with fail
     go_quiet (fail)
     go_wp2_with fail
     go_ret2
     rw [HA.out]
     exact ⟨rfl, by first | exact HDR.out _ | (rw [World.drewN_drewN]; exact HDR.out _)⟩
    ·have h4 : (N : Int) ≤ x := by omega
     go_wp2_with fail
     go_quiet (fail)
     go_wp2_with fail
     go_ret2
     rw [HA.out]
     exact ⟨rfl, by first | exact HDR.out _ | (rw [World.drewN_drewN]; exact HDR.out _)⟩
  ·obtain rfl : n = j := by omega
   rw [List.take_of_length_le (by rw [HLEN.out]; exact Nat.le_refl _)] at HH
   clear hlt
   go_wp2_with fail
   go_loopw [11] (fun i wr => ∃ j : Nat, j ≤ n ∧ i = .int .i64 (j : Int) ∧ (∀ k ∈ ks.take j, (Tr.at_ (nds S) k).under = false) ∧ (ks.take j).Nodup ∧ ∃ q, wr = w.drewN q) (fun i _ => n - (intOf i).toNat)
   case atStart => exact ⟨0, by omega, rfl, by simp, by simp, _, rfl⟩
   case round =>
    obtain ⟨j, hj, rfl, hu, hnd, q, rfl⟩ := hrel
    have HU := Lib.hid hu
    have HND := Lib.hid hnd
    clear hu hnd
    by_cases hlt : j < n
    ·obtain ⟨x, hx⟩ : ∃ x, ks[j]? = some x := ⟨_, List.getElem?_eq_getElem (by rw [HLEN.out]; exact hlt)⟩
     obtain ⟨b, o, rfl, hbl, hc⟩ := cl_at HL.out hx
     have HX := Lib.hid hx
     have hji : (j : Int) < (n : Int) := by omega
     have hj0 : (0 : Int) ≤ (j : Int) := by omega
     have hjc : (j : Int) ≤ (c : Int) := by omega
     have hjc2 : j ≤ c := by omega
     have hcut : ∀ W, (Instr.slice 32 (.slice (some ⟨b, o, none⟩) n c) none (some (.int .i64 (j : Int))) none).run Tryz.prog W = .ok (.slice (some ⟨b, o, none⟩) j c) W := fun W => cut_hiT _ _ _ _ hjc2 W
     have hx1 := HH.out x (List.mem_of_getElem? hx)
     have HX1 := Lib.hid hx1
     obtain ⟨k, rfl, hk⟩ := has_nat hx1
     rw [nds_len] at hk
     obtain ⟨s, hs⟩ : ∃ s, S[k]? = some s := ⟨_, List.getElem?_eq_getElem hk⟩
     obtain ⟨b2, cap', e, _, hbl2, hcl, hfz⟩ := HC.out k s hs
     simp only [Value.slice.injEq] at e
     obtain ⟨rfl, _, _⟩ := e
     have y7 := hcl 7 (.bool s.x.under) (by omega) rfl
     have hun : (Tr.at_ (nds S) (k : Int)).under = s.x.under := by rw [Tr.at_of (nds_at hs)]
     have hk0 : (0 : Int) ≤ (k : Int) := by omega
     have hkN : (k : Int) < (N : Int) := by have := HN.out; omega
     have HUN := Lib.hid hun
     have HIN := Lib.hid (fun q => inL_any (some ⟨b, o, none⟩) j c (ks.take j) (k : Int) (w.drewN q) (by rw [List.length_take, HLEN.out]; omega) ((HL.out.takeT j).up (below_drewN (Below.refl _ _) q)) (by omega))
     obtain ⟨U, hU⟩ : ∃ U, s.x.under = U := ⟨_, rfl⟩
     rw [hU] at y7 HUN
     clear hx hx1 hcl hfz hs hun hU hk
     have HTS := Lib.hid (take_snocT HX.out)
     cases U with
     | true =>
      have hw : Tr.wrong (nds S) ks = 15 := by
       unfold Tr.wrong
       rw [if_neg (by
        intro hh
        obtain ⟨z, hz, h5⟩ := List.any_eq_true.1 hh
        rw [HH.out z hz] at h5; cases h5), if_pos]
       rw [Bool.or_eq_true]
       exact .inl (List.any_eq_true.2 ⟨_, List.mem_of_getElem? HX.out, HUN.out⟩)
      have HA := Lib.hid (show AN = ⟨0, 15, nds S⟩ by rw [← HAN.out]; unfold Tr.node; rw [if_neg (by rw [hw]; decide), hw])
      clear hw
      go_wp2_with fail
      go_quiet (exact Calls.quiet_of (HIN.out _))
      go_wp2_with fail
      go_ret2
      rw [HA.out]
      exact ⟨rfl, by first | exact HDR.out _ | (rw [World.drewN_drewN]; exact HDR.out _)⟩
     | false =>
      by_cases hin : (k : Int) ∈ ks.take j
      ·rw [decide_eq_true hin] at HIN
       have hw : Tr.wrong (nds S) ks = 15 := by
        unfold Tr.wrong
        rw [if_neg (by
         intro hh
         obtain ⟨z, hz, h5⟩ := List.any_eq_true.1 hh
         rw [HH.out z hz] at h5; cases h5), if_pos]
        rw [Bool.or_eq_true]
        refine .inr (decide_eq_true fun hnd => ?_)
        have h5 : (ks.take (j + 1)).Nodup := hnd.sublist (List.take_sublist _ _)
        rw [HTS.out] at h5
        exact (List.nodup_append.1 h5).2.2 _ hin _ (by simp) rfl
       have HA := Lib.hid (show AN = ⟨0, 15, nds S⟩ by rw [← HAN.out]; unfold Tr.node; rw [if_neg (by rw [hw]; decide), hw])
       clear hw hin
       go_wp2_with fail
       have hz0 : (fun w' : World => w'.cell? ⟨rt, 1, none⟩ = some (.slice (some ⟨b2, 0, none⟩) N cap) ∧ w'.cell? ⟨b2, k * 8 + 7, none⟩ = some (.bool false) ∧ w'.cell? ⟨b, o + j, none⟩ = some (.int .i64 (k : Int))) (w.drewN q).drew := ⟨c1, y7, hc⟩
       refine Zed.begin_ (fun w' => w'.cell? ⟨rt, 1, none⟩ = some (.slice (some ⟨b2, 0, none⟩) N cap) ∧ w'.cell? ⟨b2, k * 8 + 7, none⟩ = some (.bool false) ∧ w'.cell? ⟨b, o + j, none⟩ = some (.int .i64 (k : Int))) [] (by kernel_rfl) ?_
       refine Zd.pureD (i := 0) (d := some 43) (v := ?vr0x1) rfl rfl (by kernel_rfl) (by kernel_rfl) (by kernel_rfl) (by kernel_rfl) (by kernel_rfl) (fun _ _ _ h => h) (Or.inl ⟨by kernel_rfl, ?hyr0x1⟩) (.inr hz0) ?restr0x1
       case hyr0x1 => (intro w _; go_simp; try with_reducible rfl)
       try simp only [Act.put, List.setIfInBounds_toArray, List.set_cons_zero, List.set_cons_succ]
       refine Zd.pureD (i := 1) (d := some 44) (v := ?vr1x2) rfl rfl (by kernel_rfl) (by kernel_rfl) (by kernel_rfl) (by kernel_rfl) (by kernel_rfl) (fun _ _ _ h => h) (Or.inl ⟨by kernel_rfl, ?hyr1x2⟩) (.inr hz0) ?restr1x2
       case hyr1x2 => (intro w _; go_simp; try with_reducible rfl)
       try simp only [Act.put, List.setIfInBounds_toArray, List.set_cons_zero, List.set_cons_succ]
       refine Zd.pureD (i := 2) (d := some 45) (v := ?vr2x3) rfl rfl (by kernel_rfl) (by kernel_rfl) (by kernel_rfl) (by kernel_rfl) (by kernel_rfl) (fun _ _ _ h => h) (Or.inl ⟨by kernel_rfl, ?hyr2x3⟩) (.inr hz0) ?restr2x3
       case hyr2x3 => (intro w _; go_simp; try with_reducible rfl)
       try simp only [Act.put, List.setIfInBounds_toArray, List.set_cons_zero, List.set_cons_succ]
       refine Zd.takeD (i := 3) (d := some 46) (v := ?vr3x4) rfl rfl (by kernel_rfl) (by kernel_rfl) (by kernel_rfl) (by kernel_rfl) (by kernel_rfl) (fun _ _ _ h => h) (Or.inl ⟨by kernel_rfl, ?hyr3x4⟩) hz0 ?restr3x4
       case hyr3x4 => (intro w hSw; obtain ⟨u1, u2, u3⟩ := hSw; go_simp; try with_reducible rfl)
       try simp only [Act.put, List.setIfInBounds_toArray, List.set_cons_zero, List.set_cons_succ]
       refine Zd.pureD (i := 4) (d := some 47) (v := ?vr4x5) rfl rfl (by kernel_rfl) (by kernel_rfl) (by kernel_rfl) (by kernel_rfl) (by kernel_rfl) (fun _ _ _ h => h) (Or.inl ⟨by kernel_rfl, ?hyr4x5⟩) (.inr hz0) ?restr4x5
       case hyr4x5 => (intro w _; go_simp; try with_reducible rfl)
       try simp only [Act.put, List.setIfInBounds_toArray, List.set_cons_zero, List.set_cons_succ]
       refine Zd.pureD (i := 5) (d := some 48) (v := ?vr5x6) rfl rfl (by kernel_rfl) (by kernel_rfl) (by kernel_rfl) (by kernel_rfl) (by kernel_rfl) (fun _ _ _ h => h) (Or.inl ⟨by kernel_rfl, ?hyr5x6⟩) (.inr hz0) ?restr5x6
       case hyr5x6 => (intro w _; go_simp; try with_reducible rfl)
       try simp only [Act.put, List.setIfInBounds_toArray, List.set_cons_zero, List.set_cons_succ]
       refine Zd.pureD (i := 6) (d := some 49) (v := ?vr6x7) rfl rfl (by kernel_rfl) (by kernel_rfl) (by kernel_rfl) (by kernel_rfl) (by kernel_rfl) (fun _ _ _ h => h) (Or.inl ⟨by kernel_rfl, ?hyr6x7⟩) (.inr hz0) ?restr6x7
       case hyr6x7 => (intro w _; go_simp; try with_reducible rfl)
       try simp only [Act.put, List.setIfInBounds_toArray, List.set_cons_zero, List.set_cons_succ]
       refine Zd.takeD (i := 7) (d := some 50) (v := ?vr7x8) rfl rfl (by kernel_rfl) (by kernel_rfl) (by kernel_rfl) (by kernel_rfl) (by kernel_rfl) (fun _ _ _ h => h) (Or.inl ⟨by kernel_rfl, ?hyr7x8⟩) hz0 ?restr7x8
       case hyr7x8 => (intro w hSw; obtain ⟨u1, u2, u3⟩ := hSw; go_simp; try with_reducible rfl)
       try simp only [Act.put, List.setIfInBounds_toArray, List.set_cons_zero, List.set_cons_succ]
       refine Zd.pureD (i := 8) (d := some 51) (v := ?vr8x9) rfl rfl (by kernel_rfl) (by kernel_rfl) (by kernel_rfl) (by kernel_rfl) (by kernel_rfl) (fun _ _ _ h => h) (Or.inl ⟨by kernel_rfl, ?hyr8x9⟩) (.inr hz0) ?restr8x9
       case hyr8x9 => (intro w _; go_simp; try with_reducible rfl)
       try simp only [Act.put, List.setIfInBounds_toArray, List.set_cons_zero, List.set_cons_succ]
       refine Zd.pureD (i := 9) (d := some 52) (v := ?vr9x10) rfl rfl (by kernel_rfl) (by kernel_rfl) (by kernel_rfl) (by kernel_rfl) (by kernel_rfl) (fun _ _ _ h => h) (Or.inl ⟨by kernel_rfl, ?hyr9x10⟩) (.inr hz0) ?restr9x10
       case hyr9x10 => (intro w _; go_simp; try with_reducible rfl)
       try simp only [Act.put, List.setIfInBounds_toArray, List.set_cons_zero, List.set_cons_succ]
       refine Zd.takeD (i := 10) (d := some 53) (v := ?vr10x11) rfl rfl (by kernel_rfl) (by kernel_rfl) (by kernel_rfl) (by kernel_rfl) (by kernel_rfl) (fun _ _ _ h => h) (Or.inl ⟨by kernel_rfl, ?hyr10x11⟩) hz0 ?restr10x11
       case hyr10x11 => (intro w hSw; obtain ⟨u1, u2, u3⟩ := hSw; go_simp; try with_reducible rfl)
       try simp only [Act.put, List.setIfInBounds_toArray, List.set_cons_zero, List.set_cons_succ]
       refine Zd.pureD (i := 11) (d := some 54) (v := ?vr11x12) rfl rfl (by kernel_rfl) (by kernel_rfl) (by kernel_rfl) (by kernel_rfl) (by kernel_rfl) (fun _ _ _ h => h) (Or.inl ⟨by kernel_rfl, ?hyr11x12⟩) (.inr hz0) ?restr11x12
       case hyr11x12 => (intro w _; go_simp; try with_reducible rfl)
       try simp only [Act.put, List.setIfInBounds_toArray, List.set_cons_zero, List.set_cons_succ]
       refine Zd.pureD (i := 12) (d := some 55) (v := ?vr12x13) rfl rfl (by kernel_rfl) (by kernel_rfl) (by kernel_rfl) (by kernel_rfl) (by kernel_rfl) (fun _ _ _ h => h) (Or.inl ⟨by kernel_rfl, ?hyr12x13⟩) (.inr hz0) ?restr12x13
       case hyr12x13 => (intro w _; go_simp; try with_reducible rfl)
       try simp only [Act.put, List.setIfInBounds_toArray, List.set_cons_zero, List.set_cons_succ]
       refine Zd.pureD (i := 13) (d := some 56) (v := ?vr13x14) rfl rfl (by kernel_rfl) (by kernel_rfl) (by kernel_rfl) (by kernel_rfl) (by kernel_rfl) (fun _ _ _ h => h) (Or.inl ⟨by kernel_rfl, ?hyr13x14⟩) (.inr hz0) ?restr13x14
       case hyr13x14 => (intro w _; go_simp; try with_reducible rfl)
       try simp only [Act.put, List.setIfInBounds_toArray, List.set_cons_zero, List.set_cons_succ]
       refine Zd.pureD (i := 14) (d := some 57) (v := ?vr14x15) rfl rfl (by kernel_rfl) (by kernel_rfl) (by kernel_rfl) (by kernel_rfl) (by kernel_rfl) (fun _ _ _ h => h) (Or.inl ⟨by kernel_rfl, ?hyr14x15⟩) (.inr hz0) ?restr14x15
       case hyr14x15 => (intro w _; go_simp; try with_reducible rfl)
       try simp only [Act.put, List.setIfInBounds_toArray, List.set_cons_zero, List.set_cons_succ]
       refine Zd.pureD (i := 15) (d := some 58) (v := ?vr15x16) rfl rfl (by kernel_rfl) (by kernel_rfl) (by kernel_rfl) (by kernel_rfl) (by kernel_rfl) (fun _ _ _ h => h) (Or.inl ⟨by kernel_rfl, ?hyr15x16⟩) (.inr hz0) ?restr15x16
       case hyr15x16 => (intro w _; go_simp; try with_reducible rfl)
       try simp only [Act.put, List.setIfInBounds_toArray, List.set_cons_zero, List.set_cons_succ]
       refine Zd.pureD (i := 16) (d := some 59) (v := ?vr16x17) rfl rfl (by kernel_rfl) (by kernel_rfl) (by kernel_rfl) (by kernel_rfl) (by kernel_rfl) (fun _ _ _ h => h) (Or.inl ⟨by kernel_rfl, ?hyr16x17⟩) (.inr hz0) ?restr16x17
       case hyr16x17 => (intro w _; go_simp; try with_reducible rfl)
       try simp only [Act.put, List.setIfInBounds_toArray, List.set_cons_zero, List.set_cons_succ]
       refine Zd.pureD (i := 17) (d := some 60) (v := ?vr17x18) rfl rfl (by kernel_rfl) (by kernel_rfl) (by kernel_rfl) (by kernel_rfl) (by kernel_rfl) (fun _ _ _ h => h) (Or.inl ⟨by kernel_rfl, ?hyr17x18⟩) (.inr hz0) ?restr17x18
       case hyr17x18 => (intro w _; go_simp; try with_reducible rfl)
       try simp only [Act.put, List.setIfInBounds_toArray, List.set_cons_zero, List.set_cons_succ]
       refine Zd.takeD (i := 18) (d := some 61) (v := ?vr18x19) rfl rfl (by kernel_rfl) (by kernel_rfl) (by kernel_rfl) (by kernel_rfl) (by kernel_rfl) (fun _ _ _ h => h) (Or.inl ⟨by kernel_rfl, ?hyr18x19⟩) hz0 ?restr18x19
       case hyr18x19 => (intro w hSw; obtain ⟨u1, u2, u3⟩ := hSw; go_simp; try with_reducible rfl)
       try simp only [Act.put, List.setIfInBounds_toArray, List.set_cons_zero, List.set_cons_succ]
       refine Zd.call (i := 19) (d := some 62) (by kernel_rfl) rfl rfl (by kernel_rfl) (by kernel_rfl) (HIN.out (q + 1)) ?_
       rintro e wz ⟨rfl, kz, hwz⟩
       have hz1 : wz.cell? ⟨rt, 1, none⟩ = some (.slice (some ⟨b2, 0, none⟩) N cap) ∧ wz.cell? ⟨b2, k * 8 + 7, none⟩ = some (.bool false) ∧ wz.cell? ⟨b, o + j, none⟩ = some (.int .i64 (k : Int)) := by rw [hwz]; exact hz0
       refine ⟨_, rfl, hz1, ?_⟩
       try simp only [Act.put, List.setIfInBounds_toArray, List.set_cons_zero, List.set_cons_succ]
       refine Zd.pureD (i := 20) (d := some 63) (v := ?vr20x20) rfl rfl (by kernel_rfl) (by kernel_rfl) (by kernel_rfl) (by kernel_rfl) (by kernel_rfl) (fun _ _ _ h => h) (Or.inl ⟨by kernel_rfl, ?hyr20x20⟩) (.inr hz1) ?restr20x20
       case hyr20x20 => (intro w _; go_simp; try with_reducible rfl)
       try simp only [Act.put, List.setIfInBounds_toArray, List.set_cons_zero, List.set_cons_succ]
       refine Zed.all (by kernel_rfl) ?_ _
       have hwz2 : wz = w.drewN (q + 1 + kz) := by rw [hwz, World.drewN_drewN]
       clear hz0 hz1 hwz
       subst hwz2
       go_wp2_with fail
       go_ret2
       rw [HA.out]
       exact ⟨rfl, by first | exact HDR.out _ | (rw [World.drewN_drewN]; exact HDR.out _)⟩
      ·rw [decide_eq_false hin] at HIN
       have HNI := Lib.hid hin
       clear hin
       go_wp2_with fail
       have hz0 : (fun w' : World => w'.cell? ⟨rt, 1, none⟩ = some (.slice (some ⟨b2, 0, none⟩) N cap) ∧ w'.cell? ⟨b2, k * 8 + 7, none⟩ = some (.bool false) ∧ w'.cell? ⟨b, o + j, none⟩ = some (.int .i64 (k : Int))) (w.drewN q).drew := ⟨c1, y7, hc⟩
       refine Zed.begin_ (fun w' => w'.cell? ⟨rt, 1, none⟩ = some (.slice (some ⟨b2, 0, none⟩) N cap) ∧ w'.cell? ⟨b2, k * 8 + 7, none⟩ = some (.bool false) ∧ w'.cell? ⟨b, o + j, none⟩ = some (.int .i64 (k : Int))) [] (by kernel_rfl) ?_
       refine Zd.pureD (i := 0) (d := some 43) (v := ?vr0x21) rfl rfl (by kernel_rfl) (by kernel_rfl) (by kernel_rfl) (by kernel_rfl) (by kernel_rfl) (fun _ _ _ h => h) (Or.inl ⟨by kernel_rfl, ?hyr0x21⟩) (.inr hz0) ?restr0x21
       case hyr0x21 => (intro w _; go_simp; try with_reducible rfl)
       try simp only [Act.put, List.setIfInBounds_toArray, List.set_cons_zero, List.set_cons_succ]
       refine Zd.pureD (i := 1) (d := some 44) (v := ?vr1x22) rfl rfl (by kernel_rfl) (by kernel_rfl) (by kernel_rfl) (by kernel_rfl) (by kernel_rfl) (fun _ _ _ h => h) (Or.inl ⟨by kernel_rfl, ?hyr1x22⟩) (.inr hz0) ?restr1x22
       case hyr1x22 => (intro w _; go_simp; try with_reducible rfl)
       try simp only [Act.put, List.setIfInBounds_toArray, List.set_cons_zero, List.set_cons_succ]
       refine Zd.pureD (i := 2) (d := some 45) (v := ?vr2x23) rfl rfl (by kernel_rfl) (by kernel_rfl) (by kernel_rfl) (by kernel_rfl) (by kernel_rfl) (fun _ _ _ h => h) (Or.inl ⟨by kernel_rfl, ?hyr2x23⟩) (.inr hz0) ?restr2x23
       case hyr2x23 => (intro w _; go_simp; try with_reducible rfl)
       try simp only [Act.put, List.setIfInBounds_toArray, List.set_cons_zero, List.set_cons_succ]
       refine Zd.takeD (i := 3) (d := some 46) (v := ?vr3x24) rfl rfl (by kernel_rfl) (by kernel_rfl) (by kernel_rfl) (by kernel_rfl) (by kernel_rfl) (fun _ _ _ h => h) (Or.inl ⟨by kernel_rfl, ?hyr3x24⟩) hz0 ?restr3x24
       case hyr3x24 => (intro w hSw; obtain ⟨u1, u2, u3⟩ := hSw; go_simp; try with_reducible rfl)
       try simp only [Act.put, List.setIfInBounds_toArray, List.set_cons_zero, List.set_cons_succ]
       refine Zd.pureD (i := 4) (d := some 47) (v := ?vr4x25) rfl rfl (by kernel_rfl) (by kernel_rfl) (by kernel_rfl) (by kernel_rfl) (by kernel_rfl) (fun _ _ _ h => h) (Or.inl ⟨by kernel_rfl, ?hyr4x25⟩) (.inr hz0) ?restr4x25
       case hyr4x25 => (intro w _; go_simp; try with_reducible rfl)
       try simp only [Act.put, List.setIfInBounds_toArray, List.set_cons_zero, List.set_cons_succ]
       refine Zd.pureD (i := 5) (d := some 48) (v := ?vr5x26) rfl rfl (by kernel_rfl) (by kernel_rfl) (by kernel_rfl) (by kernel_rfl) (by kernel_rfl) (fun _ _ _ h => h) (Or.inl ⟨by kernel_rfl, ?hyr5x26⟩) (.inr hz0) ?restr5x26
       case hyr5x26 => (intro w _; go_simp; try with_reducible rfl)
       try simp only [Act.put, List.setIfInBounds_toArray, List.set_cons_zero, List.set_cons_succ]
       refine Zd.pureD (i := 6) (d := some 49) (v := ?vr6x27) rfl rfl (by kernel_rfl) (by kernel_rfl) (by kernel_rfl) (by kernel_rfl) (by kernel_rfl) (fun _ _ _ h => h) (Or.inl ⟨by kernel_rfl, ?hyr6x27⟩) (.inr hz0) ?restr6x27
       case hyr6x27 => (intro w _; go_simp; try with_reducible rfl)
       try simp only [Act.put, List.setIfInBounds_toArray, List.set_cons_zero, List.set_cons_succ]
       refine Zd.takeD (i := 7) (d := some 50) (v := ?vr7x28) rfl rfl (by kernel_rfl) (by kernel_rfl) (by kernel_rfl) (by kernel_rfl) (by kernel_rfl) (fun _ _ _ h => h) (Or.inl ⟨by kernel_rfl, ?hyr7x28⟩) hz0 ?restr7x28
       case hyr7x28 => (intro w hSw; obtain ⟨u1, u2, u3⟩ := hSw; go_simp; try with_reducible rfl)
       try simp only [Act.put, List.setIfInBounds_toArray, List.set_cons_zero, List.set_cons_succ]
       refine Zd.pureD (i := 8) (d := some 51) (v := ?vr8x29) rfl rfl (by kernel_rfl) (by kernel_rfl) (by kernel_rfl) (by kernel_rfl) (by kernel_rfl) (fun _ _ _ h => h) (Or.inl ⟨by kernel_rfl, ?hyr8x29⟩) (.inr hz0) ?restr8x29
       case hyr8x29 => (intro w _; go_simp; try with_reducible rfl)
       try simp only [Act.put, List.setIfInBounds_toArray, List.set_cons_zero, List.set_cons_succ]
       refine Zd.pureD (i := 9) (d := some 52) (v := ?vr9x30) rfl rfl (by kernel_rfl) (by kernel_rfl) (by kernel_rfl) (by kernel_rfl) (by kernel_rfl) (fun _ _ _ h => h) (Or.inl ⟨by kernel_rfl, ?hyr9x30⟩) (.inr hz0) ?restr9x30
       case hyr9x30 => (intro w _; go_simp; try with_reducible rfl)
       try simp only [Act.put, List.setIfInBounds_toArray, List.set_cons_zero, List.set_cons_succ]
       refine Zd.takeD (i := 10) (d := some 53) (v := ?vr10x31) rfl rfl (by kernel_rfl) (by kernel_rfl) (by kernel_rfl) (by kernel_rfl) (by kernel_rfl) (fun _ _ _ h => h) (Or.inl ⟨by kernel_rfl, ?hyr10x31⟩) hz0 ?restr10x31
       case hyr10x31 => (intro w hSw; obtain ⟨u1, u2, u3⟩ := hSw; go_simp; try with_reducible rfl)
       try simp only [Act.put, List.setIfInBounds_toArray, List.set_cons_zero, List.set_cons_succ]
       refine Zd.pureD (i := 11) (d := some 54) (v := ?vr11x32) rfl rfl (by kernel_rfl) (by kernel_rfl) (by kernel_rfl) (by kernel_rfl) (by kernel_rfl) (fun _ _ _ h => h) (Or.inl ⟨by kernel_rfl, ?hyr11x32⟩) (.inr hz0) ?restr11x32
       case hyr11x32 => (intro w _; go_simp; try with_reducible rfl)
       try simp only [Act.put, List.setIfInBounds_toArray, List.set_cons_zero, List.set_cons_succ]
       refine Zd.pureD (i := 12) (d := some 55) (v := ?vr12x33) rfl rfl (by kernel_rfl) (by kernel_rfl) (by kernel_rfl) (by kernel_rfl) (by kernel_rfl) (fun _ _ _ h => h) (Or.inl ⟨by kernel_rfl, ?hyr12x33⟩) (.inr hz0) ?restr12x33
       case hyr12x33 => (intro w _; go_simp; try with_reducible rfl)
       try simp only [Act.put, List.setIfInBounds_toArray, List.set_cons_zero, List.set_cons_succ]
       refine Zd.pureD (i := 13) (d := some 56) (v := ?vr13x34) rfl rfl (by kernel_rfl) (by kernel_rfl) (by kernel_rfl) (by kernel_rfl) (by kernel_rfl) (fun _ _ _ h => h) (Or.inl ⟨by kernel_rfl, ?hyr13x34⟩) (.inr hz0) ?restr13x34
       case hyr13x34 => (intro w _; go_simp; try with_reducible rfl)
       try simp only [Act.put, List.setIfInBounds_toArray, List.set_cons_zero, List.set_cons_succ]
       refine Zd.pureD (i := 14) (d := some 57) (v := ?vr14x35) rfl rfl (by kernel_rfl) (by kernel_rfl) (by kernel_rfl) (by kernel_rfl) (by kernel_rfl) (fun _ _ _ h => h) (Or.inl ⟨by kernel_rfl, ?hyr14x35⟩) (.inr hz0) ?restr14x35
       case hyr14x35 => (intro w _; go_simp; try with_reducible rfl)
       try simp only [Act.put, List.setIfInBounds_toArray, List.set_cons_zero, List.set_cons_succ]
       refine Zd.pureD (i := 15) (d := some 58) (v := ?vr15x36) rfl rfl (by kernel_rfl) (by kernel_rfl) (by kernel_rfl) (by kernel_rfl) (by kernel_rfl) (fun _ _ _ h => h) (Or.inl ⟨by kernel_rfl, ?hyr15x36⟩) (.inr hz0) ?restr15x36
       case hyr15x36 => (intro w _; go_simp; try with_reducible rfl)
       try simp only [Act.put, List.setIfInBounds_toArray, List.set_cons_zero, List.set_cons_succ]
       refine Zd.pureD (i := 16) (d := some 59) (v := ?vr16x37) rfl rfl (by kernel_rfl) (by kernel_rfl) (by kernel_rfl) (by kernel_rfl) (by kernel_rfl) (fun _ _ _ h => h) (Or.inl ⟨by kernel_rfl, ?hyr16x37⟩) (.inr hz0) ?restr16x37
       case hyr16x37 => (intro w _; go_simp; try with_reducible rfl)
       try simp only [Act.put, List.setIfInBounds_toArray, List.set_cons_zero, List.set_cons_succ]
       refine Zd.pureD (i := 17) (d := some 60) (v := ?vr17x38) rfl rfl (by kernel_rfl) (by kernel_rfl) (by kernel_rfl) (by kernel_rfl) (by kernel_rfl) (fun _ _ _ h => h) (Or.inl ⟨by kernel_rfl, ?hyr17x38⟩) (.inr hz0) ?restr17x38
       case hyr17x38 => (intro w _; go_simp; try with_reducible rfl)
       try simp only [Act.put, List.setIfInBounds_toArray, List.set_cons_zero, List.set_cons_succ]
       refine Zd.takeD (i := 18) (d := some 61) (v := ?vr18x39) rfl rfl (by kernel_rfl) (by kernel_rfl) (by kernel_rfl) (by kernel_rfl) (by kernel_rfl) (fun _ _ _ h => h) (Or.inl ⟨by kernel_rfl, ?hyr18x39⟩) hz0 ?restr18x39
       case hyr18x39 => (intro w hSw; obtain ⟨u1, u2, u3⟩ := hSw; go_simp; try with_reducible rfl)
       try simp only [Act.put, List.setIfInBounds_toArray, List.set_cons_zero, List.set_cons_succ]
       refine Zd.call (i := 19) (d := some 62) (by kernel_rfl) rfl rfl (by kernel_rfl) (by kernel_rfl) (HIN.out (q + 1)) ?_
       rintro e wz ⟨rfl, kz, hwz⟩
       have hz1 : wz.cell? ⟨rt, 1, none⟩ = some (.slice (some ⟨b2, 0, none⟩) N cap) ∧ wz.cell? ⟨b2, k * 8 + 7, none⟩ = some (.bool false) ∧ wz.cell? ⟨b, o + j, none⟩ = some (.int .i64 (k : Int)) := by rw [hwz]; exact hz0
       refine ⟨_, rfl, hz1, ?_⟩
       try simp only [Act.put, List.setIfInBounds_toArray, List.set_cons_zero, List.set_cons_succ]
       refine Zd.pureD (i := 20) (d := some 63) (v := ?vr20x40) rfl rfl (by kernel_rfl) (by kernel_rfl) (by kernel_rfl) (by kernel_rfl) (by kernel_rfl) (fun _ _ _ h => h) (Or.inl ⟨by kernel_rfl, ?hyr20x40⟩) (.inr hz1) ?restr20x40
       case hyr20x40 => (intro w _; go_simp; try with_reducible rfl)
       try simp only [Act.put, List.setIfInBounds_toArray, List.set_cons_zero, List.set_cons_succ]
       refine Zed.all (by kernel_rfl) ?_ _
       have hwz2 : wz = w.drewN (q + 1 + kz) := by rw [hwz, World.drewN_drewN]
       clear hz0 hz1 hwz
       subst hwz2
       go_wp2_with fail
       go_roundw
       case rel =>
        refine ⟨j + 1, by omega, by go_num, fun z hz => ?_, ?_, _, rfl⟩
        ·rw [HTS.out] at hz
         rcases List.mem_append.1 hz with hz | hz
         ·exact HU.out z hz
         ·simp at hz; subst hz; exact HUN.out
        ·rw [HTS.out]
         exact List.nodup_append.2 ⟨HND.out, by simp, fun a ha b' hb' e => by simp at hb'; subst hb'; subst e; exact HNI.out ha⟩
       case measure => simp [intOf]; omega
    ·obtain rfl : n = j := by omega
     rw [List.take_of_length_le (by rw [HLEN.out]; exact Nat.le_refl _)] at HU HND
     clear hlt
     have hw0 : Tr.wrong (nds S) ks = 0 := by
      unfold Tr.wrong
      rw [if_neg (by
       intro hh
       obtain ⟨z, hz, h5⟩ := List.any_eq_true.1 hh
       rw [HH.out z hz] at h5; cases h5), if_neg]
      rw [Bool.or_eq_true]
      rintro (hh | hh)
      ·obtain ⟨z, hz, h5⟩ := List.any_eq_true.1 hh
       rw [HU.out z hz] at h5; cases h5
      ·exact of_decide_eq_true hh HND.out
     have hc0 := costS_len S
     have HRM := Lib.hid HT.out.room
     have htk := fun q => rtake_any rm l (costS S) m (1 + (n : Int)) (w.drewN q) (HT.out.below (below_drewN (Below.refl _ _) q)).meter ⟨by omega, HT.out.room.1, HT.out.room.2⟩ ⟨by omega, by omega⟩
     by_cases hno : l - costS S < 1 + (n : Int)
     ·obtain ⟨q1, q2, q3⟩ := take_big (l := l) (u := costS S) (m := m) (n := 1 + (n : Int)) (by omega) hno
      rw [q1, q2, q3] at htk
      have HTK := Lib.hid htk
      have HA := Lib.hid (show AN = ⟨0, 5, nds S⟩ by rw [← HAN.out]; unfold Tr.node; rw [if_pos hw0, if_pos (by rw [HLEN.out]; exact hno)])
      clear htk q1 q2 q3 hno hw0
      go_wp2_with fail
      refine (HTK.out _).mono ?_
      rintro e w1 ⟨rfl, hT1⟩
      have HT1 := Lib.hid hT1
      clear hT1 HTK
      go_wp2_with fail
      go_ret2
      rw [HA.out]
      have hu := (HT.out.below (below_drewN (Below.refl _ _) q)).u.took HT1.out (by simpa using hB)
      exact ⟨rfl, ⟨m, _, S, ⟨hu.1.at_, hu.1.own, hu.1.low, hu.1.meter, hu.1.kids, HRM.out, hu.1.len⟩, rfl⟩, ⟨Nat.le_trans (by simp) hu.2.1.size, fun k cs t ht hk => hu.2.1.block k cs t ht hk⟩, (below_drewN (Below.refl _ _) q).trans hu.2.2⟩
     ·obtain ⟨q1, q2⟩ := take_ok (l := l) (u := costS S) (n := 1 + (n : Int)) (by omega) (by omega)
      rw [q1, q2] at htk
      have HTK := Lib.hid htk
      have HA := Lib.hid (show AN = ⟨(nds S).length, 0, Tr.marks (nds S) ks ++ [Tr.nodeOf rule sym ks]⟩ by rw [← HAN.out]; unfold Tr.node; rw [if_pos hw0, if_neg (by rw [HLEN.out]; exact hno)])
      have HNO := Lib.hid hno
      clear htk q1 q2 hno hw0
      go_wp2_with fail
      refine (HTK.out _).mono ?_
      rintro e w1 ⟨rfl, hT1⟩
      have hu := (HT.out.below (below_drewN (Below.refl _ _) q)).u.took hT1 (by simpa using hB)
      generalize takeMost l (costS S) m (1 + (n : Int)) = M2 at hu
      have HU1 := Lib.hid hu.1
      have HS1 := Lib.hid (show Spares refT w w1 from ⟨Nat.le_trans (by simp) hu.2.1.size, fun k cs t ht hk => hu.2.1.block k cs t ht hk⟩)
      have HB1 := Lib.hid ((below_drewN (Below.refl _ _) q).trans hu.2.2)
      clear hT1 HTK hu
      go_wp2_with fail
      go_loopw [13] (fun i wr => ∃ j : Nat, j ≤ n ∧ i = .int .i64 (j : Int) ∧ (∃ S', RefU wr B rt rm l (costS S + (1 + (n : Int))) M2 (.slice ao N cap) S' ∧ nds S' = Tr.marks (nds S) (ks.take j)) ∧ Spares refT w wr ∧ Below B w wr) (fun i _ => n - (intOf i).toNat)
      case atStart => exact ⟨0, by omega, rfl, ⟨S, by have h5 := HU1.out; rw [HN.out] at h5; exact h5, rfl⟩, HS1.out, HB1.out⟩
      case round =>
       obtain ⟨j, hj, rfl, ⟨S', hU', hN'⟩, hSp, hBl⟩ := hrel
       have HU' := Lib.hid hU'
       have HN' := Lib.hid hN'
       have HSp := Lib.hid hSp
       have HBl := Lib.hid hBl
       have d1 := hU'.at_.cell 1
       simp only [List.getElem?_toArray, List.getElem?_cons_zero, List.getElem?_cons_succ] at d1
       have hlS : S'.length = N := by
        have := congrArg List.length hN'
        rw [nds_len, Tr.marks_length, nds_len, HN.out] at this
        exact this
       have HLS := Lib.hid hlS
       clear hU' hN' hSp hBl
       by_cases hlt : j < n
       ·obtain ⟨x, hx⟩ : ∃ x, ks[j]? = some x := ⟨_, List.getElem?_eq_getElem (by rw [HLEN.out]; exact hlt)⟩
        obtain ⟨b, o, rfl, hbl, hc⟩ := cl_at (HKS.out wr HSp.out HBl.out) hx
        have HX := Lib.hid hx
        have hji : (j : Int) < (n : Int) := by omega
        have hj0 : (0 : Int) ≤ (j : Int) := by omega
        have hx1 := HH.out x (List.mem_of_getElem? hx)
        obtain ⟨k, rfl, hk⟩ := has_nat hx1
        rw [nds_len, HN.out, ← hlS] at hk
        obtain ⟨s, hs⟩ : ∃ s, S'[k]? = some s := ⟨_, List.getElem?_eq_getElem hk⟩
        obtain ⟨b2, cap', e, _, hbl2, hcl, hfz⟩ := HU'.out.cells hs
        have hfz7 := hfz (k * 8 + 7)
        have y7 := hcl 7 (.bool s.x.under) (by omega) rfl
        have hst := HU'.out
        rw [e] at hst
        have hst2 := hst.stored hs
        rw [← e] at hst2
        have hap : b2 ≠ rt := fun e5 => by
         have h6 := own_apart HU'.out.own HU'.out.at_ (by decide)
         rw [e] at h6
         exact h6 (by rw [e5]; rfl)
        simp only [Value.slice.injEq] at e
        obtain ⟨rfl, e7, _⟩ := e
        have hk0 : (0 : Int) ≤ (k : Int) := by omega
        have hkN : (k : Int) < (N : Int) := by omega
        have hnd : nds (S'.set k s.low) = Tr.marks (nds S) (ks.take (j + 1)) := by
         rw [nds_low hs, HN'.out, ← Tr.marks_snoc, take_snocT hx]
        have HND2 := Lib.hid hnd
        have HST := Lib.hid hst2
        clear hx hx1 hcl hfz hs hk hst hst2 hnd e7
        go_wp2_with fail
        go_region
        have hbd : Below (wr.setCell ⟨b2, k * 8 + 7, none⟩ (.bool true)).heap.size (wr.setCell ⟨b2, k * 8 + 7, none⟩ (.bool true)) (wr.setCell ⟨b2, k * 8 + 7, none⟩ (.bool true)).drew := below_drew (Below.refl _ _)
        have hbs : Below B wr (wr.setCell ⟨b2, k * 8 + 7, none⟩ (.bool true)) := ((Keeps.refl [b2] wr).set (.inl (by simp)) (.bool true)).below (fun x hx => by simp at hx; subst hx; exact HST.out.2.2) (Nat.le_trans hB HBl.out.size)
        have hrel' : RefU (wr.setCell ⟨b2, k * 8 + 7, none⟩ (.bool true)).drew B rt rm l (costS S + (1 + (n : Int))) M2 (.slice (some ⟨b2, 0, none⟩) N cap) (S'.set k s.low) := HST.out.1.below hbd
        have HREL := Lib.hid hrel'
        have HSP2 := Lib.hid (show Spares refT w (wr.setCell ⟨b2, k * 8 + 7, none⟩ (.bool true)).drew from (HSp.out.trans HST.out.2.1).trans ⟨by simp, fun q cs t _ hh => hh⟩)
        have HBL2 := Lib.hid (show Below B w (wr.setCell ⟨b2, k * 8 + 7, none⟩ (.bool true)).drew from below_drew (HBl.out.trans hbs))
        clear hbd hbs hrel'
        go_wp2_with fail
        go_roundw
        case rel => exact ⟨j + 1, by omega, by go_num, ⟨_, HREL.out, HND2.out⟩, HSP2.out, HBL2.out⟩
        case measure => simp [intOf]; omega
       ·obtain rfl : n = j := by omega
        rw [List.take_of_length_le (by rw [HLEN.out]; exact Nat.le_refl _)] at HN'
        clear hlt
        go_wp2_with fail
        obtain ⟨i0, hi, hz0i, hz1i, hz2i⟩ := info_parts infoRef
        obtain ⟨j0, hj0, hj1, hj2, hj3⟩ := info_parts infoIntW
        have hLr := HKS.out wr HSp.out HBl.out
        have hz0 : (fun w' : World => w'.cell? ⟨rt, 1, none⟩ = some (.slice ao N cap)) wr.drew := d1
        have hb0 : Below wr.heap.size wr wr.drew := below_drew (Below.refl _ _)
        have hBr : B ≤ wr.heap.size := Nat.le_trans hB HBl.out.size
        have hrtl := HU'.out.at_.lt
        refine Zed.begin_ (fun w' => w'.cell? ⟨rt, 1, none⟩ = some (.slice ao N cap)) [15] (by kernel_rfl) ?_
        refine Zd.pureD (i := 0) (d := some 91) (v := ?vn0x1) rfl rfl (by kernel_rfl) (by kernel_rfl) (by kernel_rfl) (by kernel_rfl) (by kernel_rfl) (fun _ _ _ h => h) (Or.inl ⟨by kernel_rfl, ?hyn0x1⟩) (.inr hz0) ?restn0x1
        case hyn0x1 => (intro w _; go_simp; try with_reducible rfl)
        try simp only [Act.put, List.setIfInBounds_toArray, List.set_cons_zero, List.set_cons_succ]
        refine Zd.pureD (i := 1) (d := some 92) (v := ?vn1x2) rfl rfl (by kernel_rfl) (by kernel_rfl) (by kernel_rfl) (by kernel_rfl) (by kernel_rfl) (fun _ _ _ h => h) (Or.inl ⟨by kernel_rfl, ?hyn1x2⟩) (.inr hz0) ?restn1x2
        case hyn1x2 => (intro w _; go_simp; try with_reducible rfl)
        try simp only [Act.put, List.setIfInBounds_toArray, List.set_cons_zero, List.set_cons_succ]
        refine Zd.pureD (i := 2) (d := some 93) (v := ?vn2x3) rfl rfl (by kernel_rfl) (by kernel_rfl) (by kernel_rfl) (by kernel_rfl) (by kernel_rfl) (fun _ _ _ h => h) (Or.inl ⟨by kernel_rfl, ?hyn2x3⟩) (.inr hz0) ?restn2x3
        case hyn2x3 => (intro w _; go_simp; try with_reducible rfl)
        try simp only [Act.put, List.setIfInBounds_toArray, List.set_cons_zero, List.set_cons_succ]
        refine Zd.pureD (i := 3) (d := some 94) (v := ?vn3x4) rfl rfl (by kernel_rfl) (by kernel_rfl) (by kernel_rfl) (by kernel_rfl) (by kernel_rfl) (fun _ _ _ h => h) (Or.inl ⟨by kernel_rfl, ?hyn3x4⟩) (.inr hz0) ?restn3x4
        case hyn3x4 => (intro w _; go_simp; try with_reducible rfl)
        try simp only [Act.put, List.setIfInBounds_toArray, List.set_cons_zero, List.set_cons_succ]
        refine Zd.takeD (i := 4) (d := some 95) (v := ?vn4x5) rfl rfl (by kernel_rfl) (by kernel_rfl) (by kernel_rfl) (by kernel_rfl) (by kernel_rfl) (fun _ _ _ h => h) (Or.inl ⟨by kernel_rfl, ?hyn4x5⟩) hz0 ?restn4x5
        case hyn4x5 => (intro w hSw; (try dsimp only at hSw); go_simp; try with_reducible rfl)
        try simp only [Act.put, List.setIfInBounds_toArray, List.set_cons_zero, List.set_cons_succ]
        refine Zd.pureD (i := 5) (d := some 96) (v := ?vn5x6) rfl rfl (by kernel_rfl) (by kernel_rfl) (by kernel_rfl) (by kernel_rfl) (by kernel_rfl) (fun _ _ _ h => h) (Or.inl ⟨by kernel_rfl, ?hyn5x6⟩) (.inr hz0) ?restn5x6
        case hyn5x6 => (intro w _; go_simp; try with_reducible rfl)
        try simp only [Act.put, List.setIfInBounds_toArray, List.set_cons_zero, List.set_cons_succ]
        refine Zd.pureD (i := 6) (d := some 97) (v := ?vn6x7) rfl rfl (by kernel_rfl) (by kernel_rfl) (by kernel_rfl) (by kernel_rfl) (by kernel_rfl) (fun _ _ _ h => h) (Or.inl ⟨by kernel_rfl, ?hyn6x7⟩) (.inr hz0) ?restn6x7
        case hyn6x7 => (intro w _; go_simp; try with_reducible rfl)
        try simp only [Act.put, List.setIfInBounds_toArray, List.set_cons_zero, List.set_cons_succ]
        refine Zd.pureD (i := 8) (d := some 99) (v := ?vn8x8) rfl rfl (by kernel_rfl) (by kernel_rfl) (by kernel_rfl) (by kernel_rfl) (by kernel_rfl) (fun _ _ _ h => h) (Or.inl ⟨by kernel_rfl, ?hyn8x8⟩) (.inr hz0) ?restn8x8
        case hyn8x8 => (intro w _; go_simp; try with_reducible rfl)
        try simp only [Act.put, List.setIfInBounds_toArray, List.set_cons_zero, List.set_cons_succ]
        refine Zed.one (i := 7) (by kernel_rfl) rfl (fun K hK => ?_)
        go_simp
        have hb1 := hb0.alloc hb0.size (.cells #[] 3)
        have hE := own_noneT wr.drew 3 1
        have hz1 := (hb1.cell (p := ⟨rt, 1, none⟩) hrtl).trans d1
        refine hK.out _ _ (.inr hz1) ?_
        clear hK K
        try simp only [Act.put, List.setIfInBounds_toArray, List.set_cons_zero, List.set_cons_succ]
        refine Zed.one (i := 9) (by kernel_rfl) rfl (fun K hK => ?_)
        refine step_append_own4T _ (by kernel_rfl) _ _ 32 rfl wr.heap.size 3 j0 _ 1 8 Tryz.underlying32 hj0 hj1 hj2 hj3 rfl (by decide) _ 0 [] rfl hE A n c (vals ks) rfl (by rw [vals_lenT, HLEN.out]; omega) (LiesT_cl (hLr.up hb1)) (vals_oneT _) (by unfold maxLen; omega) (by omega) hb1.size ?_
        intro v5 w5 hown5 hg5 hn5
        rw [Nat.zero_add, List.nil_append] at hown5
        obtain ⟨a5, s5, rfl⟩ := own_form hown5
        have hb5 := hb1.grown hg5 hb1.size (fun j hj => (own_lt hE j hj).1)
        have hz5 := (hb5.cell (p := ⟨rt, 1, none⟩) hrtl).trans d1
        refine hK.out _ _ (.inr hz5) ?_
        clear hK K
        try simp only [Act.put, List.setIfInBounds_toArray, List.set_cons_zero, List.set_cons_succ]
        refine Zd.pureD (i := 10) (d := some 101) (v := ?vn10x9) rfl rfl (by kernel_rfl) (by kernel_rfl) (by kernel_rfl) (by kernel_rfl) (by kernel_rfl) (fun _ _ _ h => h) (Or.inl ⟨by kernel_rfl, ?hyn10x9⟩) (.inr hz5) ?restn10x9
        case hyn10x9 => (intro w _; go_simp; try with_reducible rfl)
        try simp only [Act.put, List.setIfInBounds_toArray, List.set_cons_zero, List.set_cons_succ]
        refine Zed.one (i := 11) (by kernel_rfl) rfl (fun K hK => ?_)
        go_simp
        have hb6 := hb5.alloc hb5.size (.cells #[.bool false, .int .i64 rule, .int .i64 sym, .int .i64 0, .int .i64 0, .int .i64 0, .slice a5 n s5, .bool false] 56)
        have hz6 := (hb6.cell (p := ⟨rt, 1, none⟩) hrtl).trans d1
        have R6 := HU'.out.below hb6
        have hown6 := R6.own
        rw [HLS.out] at hown6
        have hvg6 := own_apart hown6 R6.at_ (by decide)
        have hvm6 := own_apart hown6 R6.meter (by decide)
        refine hK.out _ _ (.inr hz6) ?_
        clear hK K
        try simp only [Act.put, List.setIfInBounds_toArray, List.set_cons_zero, List.set_cons_succ]
        refine Zed.one (i := 12) (by kernel_rfl) rfl (fun K hK => ?_)
        refine step_append_own4T _ (by kernel_rfl) _ _ 45 rfl B 56 i0 _ 8 80 Tryz.underlying45 hi hz0i hz1i hz2i rfl (by decide) _ N (flatR S') rfl hown6 (some ⟨w5.heap.size, 0, none⟩) 1 1 [.bool false, .int .i64 rule, .int .i64 sym, .int .i64 0, .int .i64 0, .int .i64 0, .slice a5 n s5, .bool false] rfl rfl (fun j u hu => ⟨_, rfl, cells_new w5 _ _ j u hu⟩) (by simp [Value.oneCell']) (by unfold maxLen; omega) (by omega) (Nat.le_trans hBr hb6.size) ?_
        intro v8 w8 hown8 hg8 hn8
        obtain ⟨a8, s8, rfl⟩ := own_form hown8
        have hA8 := At.grown R6.at_ hg8 (fun e => hvg6 e.symm)
        have hM8 := At.grown R6.meter hg8 (fun e => hvm6 e.symm)
        have hk8 : ∀ s ∈ S', Lie w8 3 s.A (vals s.x.kids) := fun s hs => (R6.kids s hs).stay (Stay.own hown6 (by decide) hg8)
        have hkn : Lie w8 3 a5 (vals ks) := ((Lie.own hown5).alloc _).stay (Stay.own hown6 (by decide) hg8)
        have hb8 : Below B w w8 := (HBl.out.trans (hb6.mono hBr)).grown hg8 (Nat.le_trans hBr hb6.size) (fun j hj => (hown6.lt j hj).1)
        have hs8 : Spares refT w w8 := HSp.out.trans (spares_grownT (spares_belowT hb6 refT) hg8 (fun q hq cs t hh => by rw [own_type hown6 hq hh]; simp [refT]))
        have hz8 := hA8.cell 1
        simp only [List.getElem?_toArray, List.getElem?_cons_zero, List.getElem?_cons_succ] at hz8
        have hf8 := hA8.frozen 1
        have hva8 := own_apart hown8 hA8 (by decide)
        refine hK.out _ _ (.inr hz8) ?_
        clear hK K
        try simp only [Act.put, List.setIfInBounds_toArray, List.set_cons_zero, List.set_cons_succ]
        refine Zd.pureD (i := 13) (d := some 104) (v := ?vn13x10) rfl rfl (by kernel_rfl) (by kernel_rfl) (by kernel_rfl) (by kernel_rfl) (by kernel_rfl) (fun _ _ _ h => h) (Or.inl ⟨by kernel_rfl, ?hyn13x10⟩) (.inr hz8) ?restn13x10
        case hyn13x10 => (intro w _; go_simp; try with_reducible rfl)
        try simp only [Act.put, List.setIfInBounds_toArray, List.set_cons_zero, List.set_cons_succ]
        refine Zd.pureD (i := 14) (d := some 105) (v := ?vn14x11) rfl rfl (by kernel_rfl) (by kernel_rfl) (by kernel_rfl) (by kernel_rfl) (by kernel_rfl) (fun _ _ _ h => h) (Or.inl ⟨by kernel_rfl, ?hyn14x11⟩) (.inr hz8) ?restn14x11
        case hyn14x11 => (intro w _; go_simp; try with_reducible rfl)
        try simp only [Act.put, List.setIfInBounds_toArray, List.set_cons_zero, List.set_cons_succ]
        refine Zed.one (i := 15) (by kernel_rfl) rfl (fun K hK => ?_)
        go_simp
        refine hK.out _ _ (.inl (by kernel_rfl)) ?_
        clear hK K
        try simp only [Act.put, List.setIfInBounds_toArray, List.set_cons_zero, List.set_cons_succ]
        refine Zed.all (by kernel_rfl) ?_ _
        have HSET := Lib.hid (hA8.set 1 (.slice a8 (N + 1) s8))
        have HA8 := Lib.hid hA8
        have HM8 := Lib.hid hM8
        have HK8 := Lib.hid hk8
        have HKN := Lib.hid hkn
        have HB8 := Lib.hid hb8
        have HS8 := Lib.hid hs8
        have HO8 := Lib.hid hown8
        have e1 := HSET.out.cell 1
        simp at e1
        clear hA8 hM8 hk8 hkn hb8 hs8 hown8 hz8 hf8 hz6 hz5 hz1 hz0 hg8 hn8 hg5 hn5 hb6 hb5 hb1 hb0 hE hown5 R6 hown6 d1 hvg6 hvm6
        go_wp2_with fail
        go_ret2
        rw [HA.out]
        obtain ⟨sn, hsn⟩ : ∃ sn : Sl, sn = ⟨Tr.nodeOf rule sym ks, a5, s5⟩ := ⟨_, rfl⟩
        have hcost : costS (S' ++ [sn]) = costS S + (1 + (n : Int)) := by
         have h1 : costS S' = costS S := by unfold costS; rw [HN'.out, Tr.cost_marks]
         have h2 : costS (S' ++ [sn]) = costS S' + (1 + (sn.x.kids.length : Int)) := by unfold costS nds; rw [List.map_append, Tr.cost_append]; congr 1
         rw [h2, h1, hsn]
         show costS S + (1 + (ks.length : Int)) = _
         rw [HLEN.out]
        have hrmne : rm ≠ rt := fun e => by
         have h1 := HA8.out
         have h2 := HM8.out
         unfold At at h1 h2
         rw [e, h1] at h2
         simp at h2
        have hk1 : Keeps [rt] w8 (w8.setCell ⟨rt, 1, none⟩ (.slice a8 (N + 1) s8)) := (Keeps.refl [rt] w8).set (.inl (by simp)) _
        have hs1 : Spares refT w8 (w8.setCell ⟨rt, 1, none⟩ (.slice a8 (N + 1) s8)) := hk1.spares (fun q hq cs t hh => by
         simp at hq; subst hq
         rw [HA8.out.type hh]; simp [refT])
        have hb1 : Below B w8 (w8.setCell ⟨rt, 1, none⟩ (.slice a8 (N + 1) s8)) := hk1.below (fun x hx => by simp at hx; subst hx; exact HU'.out.low.1) (Nat.le_trans hB HB8.out.size)
        refine ⟨?_, ⟨M2, .slice a8 (N + 1) s8, S' ++ [sn], ⟨by simpa using HSET.out, ?_, HU'.out.low, by rw [hcost]; exact HM8.out.far (by simpa using hrmne) _, fun s hs => ?_, ⟨by rw [hcost]; have := HNO.out; omega, HRM.out.2⟩, fun s hs => ?_⟩, ?_⟩, HS8.out.trans hs1, HB8.out.trans hb1⟩
        ·rw [nds_len, HN.out]
         congr 4 <;> omega
        ·rw [List.length_append, HLS.out, show flatR (S' ++ [sn]) = flatR S' ++ [.bool false, .int .i64 rule, .int .i64 sym, .int .i64 0, .int .i64 0, .int .i64 0, .slice a5 n s5, .bool false] by rw [hsn, ← HLEN.out]; simp [flatR, Sl.rc, Sl.kv, Tr.nodeOf, Tr.Tok.zero]]
         exact own_keeps HO8.out hk1 (fun k hk hm => hva8 (by simp at hm; rw [hk, hm]))
        ·rcases List.mem_append.1 hs with hs | hs
         ·exact (HK8.out s hs).keepsAt HA8.out (by decide) 1 _
         ·simp at hs; subst hs; rw [hsn]; exact HKN.out.keepsAt HA8.out (by decide) 1 _
        ·rcases List.mem_append.1 hs with hs | hs
         ·exact HU'.out.len s hs
         ·simp at hs; subst hs; rw [hsn]; show ks.length ≤ 1000000; rw [HLEN.out]; exact hn
        ·show nds (S' ++ [sn]) = _
         rw [nds_append, HN'.out, hsn]
end Go.Proofs.YtdhhkancbgealaaGreat
