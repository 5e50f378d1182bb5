import Derived.Test.YtdhhkancbgealaaGreatT12
import Derived.Deep.LoopGhost
import Derived.Laws.DeepNot64
namespace Go.Proofs.YtdhhkancbgealaaGreat
open Go.RowKit Go.Shelf
open Lx
set_option linter.unusedVariables false
set_option linter.unusedSimpArgs false
set_option maxRecDepth 100000
theorem i64_not_neg (k : Int) (h : k < 0) (h2 : -9223372036854775808 ≤ k) : bits .xor .i64 (-1) k = -1 - k := by
 show IntKind.i64.wrap ((BitVec.ofInt 64 (-1) ^^^ BitVec.ofInt 64 k).toNat : Int) = _
 have h1 : BitVec.ofInt 64 (-1) = BitVec.allOnes 64 := by decide
 rw [h1, BitVec.allOnes_xor, BitVec.toNat_not, BitVec.toNat_ofInt]
 simp [IntKind.wrap, IntKind.bits, IntKind.signed]
 omega
theorem i64_not_any (k : Int) (h : -1099511627777 ≤ k ∧ k ≤ 1099511627777) : bits .xor .i64 (-1) k = -1 - k := by
 by_cases h0 : k < 0
 ·exact i64_not_neg k h0 (by omega)
 ·obtain ⟨a, rfl⟩ : ∃ a : Nat, k = (a : Int) := ⟨k.toNat, by omega⟩
  exact i64_not a (by omega)
structure WalkOk (n₀ B tg g mb : Nat) (l m : Int) (S : List Sl) (fe fl : FuncId) (ce cl : Array Value) (E : List (Int × Bool)) (J : List (Int × Bool) → List Nat → World → Prop) : Prop where
 entE : ∀ args w, (callFunc fe args).run Tryz.prog w = .ok (.enter fe args) w
 entL : ∀ args w, (callFunc fl args).run Tryz.prog w = .ok (.enter fl args) w
 tree : ∀ pre F W, J pre F W → TreeIs W B tg g mb l m S
 keep : ∀ pre F W W' T, J pre F W → Keeps T W W' → (∀ x ∈ T, n₀ ≤ x ∧ x ∉ F) → J pre F W'
 own : ∀ pre F W W' row, J pre F W → W.grownBy W' row → (∀ r, row = some r → n₀ ≤ r ∧ ∃ o : Obj, W.heap[r]? = some o ∧ o.isCells = false) → J pre F W'
 foot : ∀ pre F W, J pre F W → ∀ x ∈ F, ∃ (cs : Array Value) (t : TypeId) (fr : Nat × Nat), W.heap[x]? = some (Obj.cells cs t fr)
 enter : ∀ pre F W k, J pre F W → (pre ++ [(k, true)]) <+: E → Calls Tryz.prog fe (#[.int .i64 k] ++ ce) W fun e W' => e = .returned (.tuple #[]) ∧ ∃ F', J (pre ++ [(k, true)]) F' W' ∧ Keeps F W W' ∧ ∀ x ∈ F', x ∈ F ∨ W.heap.size ≤ x
 leave : ∀ pre F W k, J pre F W → (pre ++ [(k, false)]) <+: E → Calls Tryz.prog fl (#[.int .i64 k] ++ cl) W fun e W' => e = .returned (.tuple #[]) ∧ ∃ F', J (pre ++ [(k, false)]) F' W' ∧ Keeps F W W' ∧ ∀ x ∈ F', x ∈ F ∨ W.heap.size ≤ x
structure Marks (n₀ : Nat) (W : World) (D : List Deferred) : Prop where
 at_ : ∀ d ∈ D, ∃ r, d.target = .collected r ∧ n₀ ≤ r ∧ W.heap[r]? = some (.deferred (some []))
 apart : D.Pairwise fun d d' => d.target ≠ d'.target
theorem Marks.nil (n₀ : Nat) (W : World) : Marks n₀ W [] := ⟨fun d h => absurd h (by simp), List.Pairwise.nil⟩
theorem Marks.keeps {n₀ : Nat} {W W' : World} {D : List Deferred} (h : Marks n₀ W D) (hk : ∀ r : Nat, W.heap[r]? = some (Obj.deferred (some [])) → W'.heap[r]? = some (Obj.deferred (some []))) : Marks n₀ W' D :=
 ⟨fun d hd => by obtain ⟨r, h1, h2, h3⟩ := h.at_ d hd; exact ⟨r, h1, h2, hk r h3⟩, h.apart⟩
theorem Marks.cons {n₀ D : Nat} {W : World} {ds : List Deferred} (h : Marks n₀ W ds) (hD : n₀ ≤ D) (hk : W.heap[D]? = some (.deferred (some []))) (hne : ∀ d ∈ ds, d.target ≠ .collected D) : Marks n₀ W ({ target := .collected D, args := #[] } :: ds) :=
 ⟨fun d hd => by
  rcases List.mem_cons.1 hd with rfl | hd
  ·exact ⟨D, rfl, hD, hk⟩
  ·exact h.at_ d hd, List.pairwise_cons.2 ⟨fun d hd e => hne d hd e.symm, h.apart⟩⟩
theorem leaves_marks {F : Fence} {n : Nat} {P : Program} {fn : Func} {tmps : Array Value} {R : Ending → World → Prop} (hres : ∀ W, (results fn tmps).run P W = .ok (.tuple #[]) W) {n₀ : Nat} (T : World → Prop)
  (hT : ∀ W r, T W → n₀ ≤ r → W.heap[r]? = some (.deferred (some [])) → T (W.putObj r (.deferred none))) (hR : ∀ W, T W → R (.returned (.tuple #[])) W) :
  ∀ (D : List Deferred) (W : World), Marks n₀ W D → T W → LeavesInM F n P fn tmps R D .returning W
 | [], W, _, hw => ⟨_, hres W, hR W hw⟩
 | d :: ds, W, hm, hw => by
  obtain ⟨r, h1, h2, h3⟩ := hm.at_ d (by simp)
  refine ⟨by simp, .inl ⟨r, _, h1, run_takeDeferred h3, ?_⟩⟩
  refine leaves_marks hres T hT hR ds _ ⟨fun e he => ?_, (List.pairwise_cons.1 hm.apart).2⟩ (hT W r hw h2 h3)
  obtain ⟨q, q1, q2, q3⟩ := hm.at_ e (by simp [he])
  have hne : q ≠ r := fun e' => (List.pairwise_cons.1 hm.apart).1 e he (by rw [h1, q1, e'])
  refine ⟨q, q1, q2, ?_⟩
  have := (grownBy_putObj' W r (.deferred none)).block q (Array.getElem?_eq_some_iff.1 q3).1 (by intro e'; injection e' with e'; exact hne e')
  rw [this]; exact q3
structure Wt (W : World) (n₀ bx : Nat) (F : List Nat) (v : Value) (K : List Int) : Prop where
 box : At W bx 32 #[v]
 row : W.ownsRow n₀ 3 1 v K.length (vals K)
 low : n₀ ≤ bx
 nbox : bx ∉ F
 nrow : ∀ k, v.ownBlock = some k → k ∉ F
section
variable {W W' : World} {n₀ bx : Nat} {F F' : List Nat} {v : Value} {K : List Int}
theorem Wt.keeps (h : Wt W n₀ bx F v K) (hk : Keeps F W W') (hF : ∀ x ∈ F', x ∈ F ∨ W.heap.size ≤ x) : Wt W' n₀ bx F' v K :=
 ⟨h.box.keeps hk h.nbox, own_keeps h.row hk h.nrow, h.low, fun hm => by
  rcases hF bx hm with h1 | h1
  ·exact h.nbox h1
  ·have := h.box.lt; omega, fun k hk' hm => by
  rcases hF k hm with h1 | h1
  ·exact h.nrow k hk' h1
  ·have := (h.row.lt k hk').2; omega⟩
theorem Wt.below (h : Wt W n₀ bx F v K) (hb : Below W.heap.size W W') : Wt W' n₀ bx F v K :=
 ⟨h.box.below hb h.box.lt, own_below h.row hb (fun k hk => (h.row.lt k hk).2), h.low, h.nbox, h.nrow⟩
theorem Wt.own (h : Wt W n₀ bx F v K) {row : Option Nat} (hg : W.grownBy W' row) (hr : ∀ r, row = some r → ∃ o : Obj, W.heap[r]? = some o ∧ o.isCells = false) : Wt W' n₀ bx F v K := by
 refine ⟨h.box.grown hg ?_, ?_, h.low, h.nbox, h.nrow⟩
 ·intro e
  obtain ⟨o, h1, h2⟩ := hr bx e.symm
  have := h.box; unfold At at this
  rw [this] at h1; cases h1; cases h2
 ·refine ⟨h.row.1, ?_⟩
  rcases h.row.2 with hn | ⟨b, cap, cur, rfl, hb, hgg, rest⟩
  ·exact .inl hn
  ·refine .inr ⟨b, cap, cur, rfl, hb, ?_, rest⟩
   rw [hg.block b (Array.getElem?_eq_some_iff.1 hgg).1]
   ·exact hgg
   ·intro e
    obtain ⟨o, h1, h2⟩ := hr b e.symm
    rw [hgg] at h1; cases h1; cases h2
end
theorem WalkOk.lt {n₀ B tg g mb : Nat} {l m : Int} {S : List Sl} {fe fl : FuncId} {ce cl : Array Value} {E : List (Int × Bool)} {J : List (Int × Bool) → List Nat → World → Prop} (h : WalkOk n₀ B tg g mb l m S fe fl ce cl E J) {pre : List (Int × Bool)} {F : List Nat} {W : World} (hJ : J pre F W) : ∀ x ∈ F, x < W.heap.size := fun x hx => by
 obtain ⟨cs, t, fr, e⟩ := h.foot pre F W hJ x hx
 exact (Array.getElem?_eq_some_iff.1 e).1
theorem WalkOk.marks {n₀ B tg g mb : Nat} {l m : Int} {S : List Sl} {fe fl : FuncId} {ce cl : Array Value} {E : List (Int × Bool)} {J : List (Int × Bool) → List Nat → World → Prop} (h : WalkOk n₀ B tg g mb l m S fe fl ce cl E J) {pre : List (Int × Bool)} {F : List Nat} {W W' : World} (hJ : J pre F W) (hk : Keeps F W W') {n : Nat} {D : List Deferred} (hM : Marks n W D) : Marks n W' D :=
 hM.keeps fun r hr => by
  rw [hk.block r (Array.getElem?_eq_some_iff.1 hr).1 (fun hm => by
   obtain ⟨cs, t, fr, e⟩ := h.foot pre F W hJ r hm
   rw [hr] at e; cases e)]
  exact hr
theorem Marks.grown {n₀ : Nat} {W W' : World} {D : List Deferred} (h : Marks n₀ W D) {row : Option Nat} (hg : W.grownBy W' row) (hr : ∀ r, row = some r → ∃ (cs : Array Value) (t : TypeId) (fr : Nat × Nat), W.heap[r]? = some (Obj.cells cs t fr)) : Marks n₀ W' D :=
 h.keeps fun r h1 => by
  rw [hg.block r (Array.getElem?_eq_some_iff.1 h1).1 (fun e => by
   obtain ⟨cs, t, fr, e'⟩ := hr r e.symm
   rw [h1] at e'; cases e')]
  exact h1
theorem Marks.below {n₀ : Nat} {W W' : World} {D : List Deferred} (h : Marks n₀ W D) (hb : Below W.heap.size W W') : Marks n₀ W' D :=
 h.keeps fun r h1 => (hb.block r (Array.getElem?_eq_some_iff.1 h1).1).trans h1
theorem own_cells {W : World} {B e size n : Nat} {v : Value} {xs : List Value} (h : W.ownsRow B e size v n xs) : ∀ k, v.ownBlock = some k → ∃ (cs : Array Value) (t : TypeId) (fr : Nat × Nat), W.heap[k]? = some (Obj.cells cs t fr) := by
 rcases h.2 with ⟨rfl, _⟩ | ⟨b, cap, cur, rfl, hb, hg, _⟩
 ·intro k hk; simp [Value.ownBlock] at hk
 ·intro k hk; simp [Value.ownBlock] at hk; subst hk; exact ⟨_, _, _, hg⟩
theorem wpListIn_append_own2 {F : Fence} {n : Nat} {P : Program} (w : World) {ops : Array Oper} {rest : List Oper} {o : Oper} {a : Act} {Q : Exit → Act → World → Prop}
  (hg : o.guard = none) (s x : Operand) (t : TypeId) (hop : o.op = Op.call { callee := Callee.builtin Builtin.append, args := #[s, x], argTypes := #[t, t] })
  (base : Nat) (e : TypeId) (i : TypeInfo) (z : Value) (size bytes : Nat) (h1 : P.underlying t = some (.slice e)) (h2 : P.info? e = some i) (h3 : i.zero = some z) (h4 : i.size = size) (h5 : i.bytes = bytes) (h6 : z.cells.size = size) (h7 : 0 < size)
  (v : Value) (k : Nat) (xs : List Value) (hs : a.eval s = v) (hown : w.ownsRow base e size v k xs) (ad : Addr) (m c : Nat) (news : List Value) (hx : a.eval x = .slice (some ad) m c) (hn : news.length = m * size)
  (hc : ∀ j u, news[j]? = some u → w.cell? (ad.add j) = some u) (h1c : ∀ u ∈ news, u.oneCell' = true) (b1 : k + m ≤ maxLen) (b2 : (k + m) * bytes ≤ 140737488355328) (b3 : base ≤ w.heap.size)
  (hK : ∀ v' w', w'.ownsRow base e size v' (k + m) (xs ++ news) → w.grownBy w' v.ownBlock → SameOrNew w v v' → wpListIn F n P ops Q rest (a.put o.dst v') w') :
  wpListIn F n P ops Q (o :: rest) a w := by
 refine wpListIn_plain hg fun K hK' => ?_
 obtain ⟨v', w', hrun, r1, r2, r3⟩ := run_append_own2 (P := P) w base t o.type e i z size bytes h1 h2 h3 h4 h5 h6 h7 v k xs hown ad m c news hn hc h1c b1 b2 b3
 unfold Oper.wpIn
 refine ⟨?_, ?_⟩
 ·simp [Oper.about, hop, resolve, Target.leads, Sem.run_pure]
 ·rw [Oper.semAt_plain F _ _ (by rw [hop]; intro c hc'; cases hc')]
  simp [execOp, hop, resolve, invoke, builtin, hs, hx, hrun, Result.andThen]
  exact hK' _ _ (hK v' w' r1 r2 r3)
structure KpB (N Bs : Nat) (A : Option Addr) (W W' : World) : Prop where
 size : W.heap.size ≤ W'.heap.size
 box : W'.heap[Bs]? = W.heap[Bs]?
 row : ∀ b o, A = some ⟨b, o, none⟩ → b < N → W'.heap[b]? = W.heap[b]?
theorem KpB.refl (N Bs : Nat) (A : Option Addr) (W : World) : KpB N Bs A W W := ⟨Nat.le_refl _, rfl, fun _ _ _ _ => rfl⟩
theorem KpB.trans {N Bs : Nat} {A : Option Addr} {X Y Z : World} (h : KpB N Bs A X Y) (k : KpB N Bs A Y Z) : KpB N Bs A X Z :=
 ⟨Nat.le_trans h.size k.size, k.box.trans h.box, fun b o e hb => (k.row b o e hb).trans (h.row b o e hb)⟩
theorem KpB.put {N Bs : Nat} {A : Option Addr} {w : World} (hBs : Bs < w.heap.size) (hN : N ≤ w.heap.size) (W : World) (l : Nat) (o o' : Obj) (hl : w.heap.size ≤ l) (h : W.heap[l]? = some o) : KpB N Bs A W (W.putObj l o') :=
 have hlt := (Array.getElem?_eq_some_iff.1 h).1
 ⟨(grownBy_putObj' W l o').size, (grownBy_putObj' W l o').block Bs (by omega) (fun e => by injection e with e; omega), fun b q e hb => (grownBy_putObj' W l o').block b (by omega) (fun e => by injection e with e; omega)⟩
attribute [local go_sem] Oper.semAt_some
set_option maxHeartbeats 4000000 in
theorem backT_in (n : Nat) (hn : 1 ≤ n) (l Bs N7 : Nat) (R : List Int) (A : Option Addr) (c : Nat) (J Jx : List Nat → World → Prop)
  (hY : ∀ pre x W, J pre W → pre.length < R.length → YieldAt Fence.wide (n - 1) Tryz.prog l (encB R x) W fun e W' =>
   (e = .returned (.bool true) ∧ J (pre ++ [x]) W' ∧ KpB N7 Bs A W W') ∨ (e = .returned (.bool false) ∧ Jx (pre ++ [x]) W'))
  (W : World) (hB : W.cell? ⟨Bs, 0, none⟩ = some (.slice A R.length c)) (hC : ∀ k x, R[k]? = some x → ∃ b o, A = some ⟨b, o, none⟩ ∧ b < N7 ∧ b < W.heap.size ∧ W.cell? ⟨b, o + k, none⟩ = some (.int .i64 x)) (hN : R.length ≤ 1000000) (hJ : J [] W) :
  CallsIn Fence.wide n Tryz.prog 88 #[.func (.yield l) #[] #[], .pointer (some ⟨Bs, 0, none⟩)] W fun e W' => (∃ v, e = .returned v) ∧
   ((∃ ys, ys = dn R.length R.length ∧ J ys W') ∨ (∃ pre, (∃ m, m < R.length ∧ pre = dn R.length (m + 1)) ∧ Jx pre W')) := by
 obtain ⟨N, hNN⟩ : ∃ N, R.length = N := ⟨_, rfl⟩
 rw [hNN] at hB hN hY ⊢
 have HNN := Lib.hid hNN
 have HC := Lib.hid hC
 have HB := Lib.hid hB
 have HY := Lib.hid hY
 have HJ := Lib.hid hJ
 clear hC hNN hY hJ
 refine callsIn_of_wp Tryz.func88 rfl trivial ?_ rfl
 simp only [Tryz.ntmps88, List.size_toArray, List.length_cons, List.length_nil, Nat.reduceAdd, Nat.reduceSub, Array.replicate_succ, Array.replicate_zero, List.push_toArray, List.append_toArray, List.nil_append, List.cons_append]
 gi_wp2_with fail
 clear hB
 gi_loopw [3] (fun v wr => ∃ m : Nat, m ≤ N ∧ v = .int .i64 ((N : Int) - 1 - (m : Int)) ∧ KpB N7 Bs A W wr ∧ J (dn N m) wr) (fun v _ => (intOf v + 1).toNat)
 case atStart => exact ⟨0, by omega, by simp, KpB.refl _ _ _ _, HJ.out⟩
 case round =>
  obtain ⟨m, hm, rfl, hb, hj⟩ := hrel
  have HBW := Lib.hid hb
  have HJR := Lib.hid hj
  clear hb hj
  by_cases hlt : m < N
  ·obtain ⟨x, hx⟩ := some_get (l := R) (i := N - 1 - m) (by rw [HNN.out]; omega)
   obtain ⟨b, o, hA, hb7, hbl, hcell⟩ := HC.out _ _ hx
   subst hA
   obtain ⟨k, hk⟩ : ∃ k : Nat, N - 1 - m = k := ⟨_, rfl⟩
   rw [hk] at hx hcell
   have y0 : wr.cell? ⟨b, o + k, none⟩ = some (.int .i64 x) := (World.cell?_of_block (a := ⟨b, o + k, none⟩) (HBW.out.row b o rfl hb7)).trans hcell
   have b0 : wr.cell? ⟨Bs, 0, none⟩ = some (.slice (some ⟨b, o, none⟩) N c) := (World.cell?_of_block (a := ⟨Bs, 0, none⟩) HBW.out.box).trans HB.out
   have hki : (N : Int) - 1 - (m : Int) = (k : Int) := by omega
   have hk0 : (0 : Int) ≤ (k : Int) := by omega
   have hk1 : (k : Int) < (N : Int) := by omega
   have hgd : atB R k = x := by unfold atB; simp [List.getD, hx]
   obtain ⟨fn, tmps, assign, body, hy, hR⟩ := HY.out (dn N m) k wr HJR.out (by rw [dn_len]; exact hlt)
   unfold encB at hy
   rw [hgd] at hy
   have HDS := Lib.hid (dn_succ N m)
   rw [hk] at HDS
   have HHK := Lib.hid hk
   rw [hki]
   clear hx hcell hgd
   gi_wp2_with fail
   refine hR.mono ?_
   clear hR hy
   rintro e W3 (⟨rfl, hJ3, hk3⟩ | ⟨rfl, hJx3⟩)
   ·have HJ3 := Lib.hid hJ3
    have HK3 := Lib.hid (HBW.out.trans hk3)
    clear hJ3 hk3
    gi_wp2_with fail
    go_roundw
    case rel => exact ⟨m + 1, by omega, by go_num, HK3.out, by rw [HDS.out]; exact HJ3.out⟩
    case measure => simp [intOf] <;> omega
   ·have HX := Lib.hid hJx3
    clear hJx3
    gi_wp2_with fail
    refine bodyPost_ret (results_none rfl _ _ _) rfl ?_
    exact ⟨⟨_, rfl⟩, .inr ⟨dn N m ++ [k], ⟨m, hlt, HDS.out.symm⟩, HX.out⟩⟩
  ·obtain rfl : N = m := by omega
   have hneg : ¬ (0 : Int) ≤ (N : Int) - 1 - (N : Int) := by omega
   gi_wp2_with fail
   go_end0
   first | exact ⟨⟨_, rfl⟩, .inl ⟨_, rfl, HJR.out⟩⟩ | exact ⟨⟨_, rfl⟩, .inl HJR.out⟩
theorem backT_stops (n : Nat) (hn : 1 ≤ n) (Bs N7 : Nat) (R : List Int) (A : Option Addr) (c : Nat) (w : World) (hB : w.cell? ⟨Bs, 0, none⟩ = some (.slice A R.length c)) (hC : ∀ k x, R[k]? = some x → ∃ b o, A = some ⟨b, o, none⟩ ∧ b < N7 ∧ b < w.heap.size ∧ w.cell? ⟨b, o + k, none⟩ = some (.int .i64 x)) (hN : R.length ≤ 1000000) :
  SeqStopsK Fence.wide n Tryz.prog 88 #[.pointer (some ⟨Bs, 0, none⟩)] (encB R) (KpB N7 Bs A) (fun ys => ys = dn R.length R.length) (fun pre => ∃ m, m < R.length ∧ pre = dn R.length (m + 1)) R.length w :=
 fun l J Jx W hW _ _ hY hJ => backT_in n hn l Bs N7 R A c J Jx hY W ((hW.cell (p := ⟨Bs, 0, none⟩) (World.block_lt_of_cell? w _ hB)).trans hB) (fun k x hx => by
  obtain ⟨b, o, h1, h2, h3, h4⟩ := hC k x hx
  exact ⟨b, o, h1, h2, Nat.lt_of_lt_of_le h3 hW.size, (hW.cell (p := ⟨b, o + k, none⟩) h3).trans h4⟩) hN hJ
theorem dn_rev (R : List Int) : (dn R.length R.length).map (atB R) = R.reverse := by
 unfold dn
 rw [List.map_map]
 refine List.ext_getElem? fun j => ?_
 by_cases hj : j < R.length
 ·rw [List.getElem?_map, List.getElem?_range hj, List.getElem?_reverse hj]
  simp only [Option.map_some, Function.comp, atB, List.getD]
  rw [List.getElem?_eq_getElem (show R.length - 1 - j < R.length by omega)]; rfl
 ·rw [List.getElem?_eq_none (by simp; omega), List.getElem?_eq_none (by simp; omega)]
theorem def_set {W : World} {a : Addr} {u : Value} {r : Nat} (h : W.heap[r]? = some (.deferred (some []))) : (W.setCell a u).heap[r]? = some (.deferred (some [])) := by
 unfold World.setCell
 simp only [Array.getElem?_modify]
 split
 ·rename_i e; subst e; rw [h]; rfl
 ·exact h
theorem infoIntW : (Tryz.prog.info? 3).map (fun i => (i.zero, i.size, i.bytes)) = some (some (.int .i64 0), 1, 8) := by kernel_rfl
theorem lieW_at {w : World} {t : TypeId} {A : Option Addr} {l : List Int} {j : Nat} {x : Int} (h : Lie w t A (vals l)) (hj : l[j]? = some x) : ∃ b o, A = some ⟨b, o, none⟩ ∧ b < w.heap.size ∧ w.cell? ⟨b, o + j, none⟩ = some (.int .i64 x) := by
 obtain ⟨b, o, e, hlt, hc⟩ := h.cell (by intro e; have := vals_get hj; rw [e] at this; simp at this)
 exact ⟨b, o, e, hlt, hc j _ (vals_get hj)⟩
theorem keeps_of_below {W W' : World} (h : Below W.heap.size W W') (T : List Nat) : Keeps T W W' := ⟨h.os, h.tape, h.output, h.size, fun k hk _ => h.block k hk⟩
structure InW (n1 bx N8 Bs n : Nat) (A : Option Addr) (c : Nat) (R : List Int) (F : List Nat) (K0 : List Int) (J : World → Prop) (w8 : World) (ys : List Nat) (W : World) : Prop where
 wt : ∃ v, Wt W n1 bx F v (K0 ++ ys.map (atB R))
 j : J W
 defs : ∀ r : Nat, w8.heap[r]? = some (Obj.deferred (some [])) → W.heap[r]? = some (Obj.deferred (some []))
 bs : At W Bs 32 #[.slice A n c]
 size : N8 ≤ W.heap.size
theorem at_rowT {W : World} {g B : Nat} {t : TypeId} {cs : Array Value} {row : Option Nat} (h : At W g t cs) (hr : ∀ r, row = some r → B ≤ r ∧ ∃ o : Obj, W.heap[r]? = some o ∧ o.isCells = false) : some g ≠ row := by
 intro e
 obtain ⟨_, o, ho, hc⟩ := hr g e.symm
 unfold At at h
 rw [h] at ho; cases ho; cases hc
theorem inW_own {n1 bx N8 Bs n : Nat} {A : Option Addr} {c : Nat} {R : List Int} {F : List Nat} {K0 : List Int} {J : World → Prop} {w8 : World} (h8 : N8 = w8.heap.size)
  (hJ : ∀ W W' row, J W → W.grownBy W' row → (∀ r, row = some r → N8 ≤ r ∧ ∃ o : Obj, W.heap[r]? = some o ∧ o.isCells = false) → J W') : OwnFrom N8 (fun ys W => InW n1 bx N8 Bs n A c R F K0 J w8 ys W) := by
 intro ys W W' row h hg hr
 obtain ⟨v, hv⟩ := h.wt
 refine ⟨⟨v, hv.own hg (fun r e => (hr r e).2)⟩, hJ W W' row h.j hg hr, fun r hd => ?_, h.bs.grown hg (at_rowT h.bs hr), Nat.le_trans h.size hg.size⟩
 have h1 := h.defs r hd
 have hlt := (Array.getElem?_eq_some_iff.1 hd).1
 rw [hg.block r (Array.getElem?_eq_some_iff.1 h1).1 (fun e => by have := (hr r e.symm).1; omega)]
 exact h1
set_option maxHeartbeats 16000000 in
theorem walk_any (i : Int) (w : World) (n₀ B tg g mb : Nat) (l m : Int) (S : List Sl) (fe fl : FuncId) (ce cl : Array Value) (J : List (Int × Bool) → List Nat → World → Prop) (F0 : List Nat)
  (hOK : WalkOk n₀ B tg g mb l m S fe fl ce cl (Tr.Evs (nds S) i) J) (hJ : J [] F0 w) (hn : n₀ ≤ w.heap.size) (hD : Tr.Down (nds S)) (hN : (Tr.Bel (nds S) i).length ≤ 400000) (hi : Tr.has (nds S) i = true) :
  Calls Tryz.prog 51 #[.pointer (some ⟨tg, 0, none⟩), .int .i64 i, .func (.func fe) #[] ce, .func (.func fl) #[] cl] w fun e w' => e = .returned (.tuple #[]) ∧ ∃ F', J (Tr.Evs (nds S) i) F' w' := by
 have HOK := Lib.hid hOK
 have HJ := Lib.hid hJ
 have HHAS := Lib.hid (thas_any i w B tg g mb l m S (hOK.tree _ _ _ hJ))
 rw [hi] at HHAS
 have hlen := Tr.Evs_len (nds S) i
 have hexp0 := Tr.expR_snoc (nds S) [] i
 have hi0 := (Tr.has_true hi).1
 have hi1 : i < 1099511627776 := by
  have h1 := (Tr.has_true hi).2
  obtain ⟨v, _, h2⟩ := (hOK.tree _ _ _ hJ).ex
  have h3 := h2.size
  rw [nds_len] at h1; omega
 have hu : Tr.unit (nds S) i = Tr.Evs (nds S) i := by unfold Tr.unit; rw [if_neg (by omega)]
 rw [hu, Tr.expR_nil, List.append_nil, List.nil_append] at hexp0
 obtain ⟨E, hE⟩ : ∃ E, Tr.Evs (nds S) i = E := ⟨_, rfl⟩
 rw [hE] at HOK hlen hexp0 ⊢
 have HX0 := Lib.hid hexp0
 have hEl : E.length ≤ 800000 := by omega
 obtain ⟨L, hL⟩ : ∃ L, nds S = L := ⟨_, rfl⟩
 rw [hL] at HX0 hD
 have HL := Lib.hid hL
 have HDN := Lib.hid hD
 clear hOK hJ hlen hexp0 hu hE hN hL hD hi
 refine (callsIn_wide (n := 4)).1 ?_
 refine callsIn_of_wp_marks Tryz.func51 rfl trivial ?_ rfl
 refine wpIn_wide.2 ?_
 simp only [Tryz.ntmps51, List.size_toArray, List.length_cons, List.length_nil, Nat.reduceAdd, Nat.reduceSub, Array.replicate_succ, Array.replicate_zero, List.push_toArray, List.append_toArray, List.nil_append, List.cons_append]
 go_wp2_with fail
 refine HHAS.out.mono ?_
 rintro e w1 ⟨rfl, hb1⟩
 have HB1 := Lib.hid hb1
 have hs1 := hb1.size
 clear hb1 HHAS
 go_wp2_with fail
 obtain ⟨W2, hW2⟩ : ∃ W, ((w1.alloc (.cells #[.int .i64 i] 3)).alloc (.cells #[.slice (some ⟨w1.heap.size, 0, none⟩) 1 1] 32)) = W := ⟨_, rfl⟩
 rw [hW2]
 have hs2 : W2.heap.size = w1.heap.size + 2 := by rw [← hW2]; simp
 have hJ2 : J [] F0 W2 := by
  refine HOK.out.keep _ _ _ _ [] HJ.out ?_ (by simp)
  have h1 : Keeps [] w w1 := ⟨HB1.out.os, HB1.out.tape, HB1.out.output, HB1.out.size, fun k hk _ => HB1.out.block k hk⟩
  rw [← hW2]
  exact (h1.alloc _).alloc _
 have hWt : Wt W2 w.heap.size (w1.heap.size + 1) F0 (.slice (some ⟨w1.heap.size, 0, none⟩) 1 1) [i] := by
  have hf := HOK.out.lt HJ.out
  refine ⟨?_, ?_, by omega, fun hm => by have := hf _ hm; omega, fun k hk hm => by
   simp [Value.ownBlock] at hk
   have := hf _ hm; omega⟩
  ·rw [← hW2]
   have := At.new (w1.alloc (.cells #[.int .i64 i] 3)) 32 #[.slice (some ⟨w1.heap.size, 0, none⟩) 1 1]
   rw [World.size_alloc] at this
   exact this
  ·rw [← hW2]
   exact own_base ((own_built w1 [.int .i64 i] 3 (by unfold maxLen; simp)).alloc _) hs1
 have HJ2 := Lib.hid hJ2
 have HW2 := Lib.hid hWt
 have HTREE := Lib.hid (HOK.out.tree _ _ _ HJ.out)
 clear hW2 hJ2 hWt hs2
 refine wp_loop_ghost (fun gk a' w' => ∃ u8 u9 u10 u12 u19 u20 u21 u22 u23 u24 u25 u26 u27 u28 u29 u30 u31 u32 u33 u34 u35 u36 u37 u38 u39 u40 u41 u42 u43 u44 u45 u46 u47 u48 u49 u50 u51 u52 u53 u54 u55 u56 u57, ∃ bx v K pre F D, (u8 = .pointer (some ⟨bx, 0, none⟩) ∧ Wt w' w.heap.size bx F v K ∧ J pre F w' ∧ pre ++ Tr.expR L K = E ∧ gk = (Tr.expR L K).length ∧ Marks w.heap.size w' D ∧ w.heap.size ≤ w'.heap.size ∧ ∀ k ∈ K, -1099511627777 ≤ k ∧ k ≤ 1099511627776) ∧ a' = { tmps := #[.pointer (some ⟨tg, 0, none⟩), .int .i64 i, .func (.func fe) #[] ce, .func (.func fl) #[] cl, undef, undef, undef, undef, u8, u9, u10, undef, u12, .pointer (some ⟨tg, 0, none⟩), .int .i64 i, .bool true, .bool false, .int .i64 i, .slice (some ⟨w1.heap.size, 0, none⟩) 1 1, u19, u20, u21, u22, u23, u24, u25, u26, u27, u28, u29, u30, u31, u32, u33, u34, u35, u36, u37, u38, u39, u40, u41, u42, u43, u44, u45, u46, u47, u48, u49, u50, u51, u52, u53, u54, u55, u56, u57], defers := D }) E.length ?start ?round
 case start =>
  refine ⟨_, _, _, _, _, _, _, _, _, _, _, _, _, _, _, _, _, _, _, _, _, _, _, _, _, _, _, _, _, _, _, _, _, _, _, _, _, _, _, _, _, _, _, _, _, [i], [], F0, [], ⟨rfl, HW2.out, HJ2.out, by rw [HX0.out]; rfl, by rw [HX0.out], Marks.nil _ _, ?_, ?_⟩, rfl⟩
  ·have := HW2.out.box.lt; omega
  ·intro k hk
   obtain rfl : k = i := by simpa using hk
   omega
 case round =>
  rintro gk a' wr ⟨u8, u9, u10, u12, u19, u20, u21, u22, u23, u24, u25, u26, u27, u28, u29, u30, u31, u32, u33, u34, u35, u36, u37, u38, u39, u40, u41, u42, u43, u44, u45, u46, u47, u48, u49, u50, u51, u52, u53, u54, u55, u56, u57, bx, v, K, pre, F, D, ⟨rfl, hW, hJ, hE, hgk, hM, hsz, hKB⟩, rfl⟩
  have HW := Lib.hid hW
  have HJR := Lib.hid hJ
  have HE := Lib.hid hE
  have HGK := Lib.hid hgk
  have HM := Lib.hid hM
  have x0 := hW.box.cell 0
  have z0 := hW.box.frozen 0
  simp at x0
  have hKl : K.length ≤ 800000 := by
   have h1 := Tr.expR_len L K
   have h2 : (Tr.expR L K).length ≤ E.length := by rw [← hE]; simp
   omega
  rcases List.eq_nil_or_concat K with hK | ⟨K', k, hK⟩
  ·subst hK
   obtain ⟨ao, cap, rfl⟩ := own_form hW.row
   have hpre : pre = E := by rw [← hE, Tr.expR_nil, List.append_nil]
   subst hpre
   simp only [List.length_nil] at x0
   clear hW hJ hE hgk hM hKl
   go_wp2_with fail
   refine leaves_marks (n₀ := w.heap.size) (fun W => results_none rfl _ _ _) (fun W => J pre F W) (fun W r hw hr hd => HOK.out.own _ _ _ _ _ hw (grownBy_putObj' W r _) (fun q hq => by injection hq with hq; subst hq; exact ⟨Nat.le_trans hn hr, _, hd, rfl⟩)) (fun W hw => ⟨rfl, F, hw⟩) D wr HM.out HJR.out
  ·rw [List.concat_eq_append] at hK
   subst hK
   obtain ⟨KL, hKL⟩ : ∃ n, K'.length = n := ⟨_, rfl⟩
   have hl1 : (K' ++ [k]).length = KL + 1 := by simp [hKL]
   obtain ⟨rb, cap, rfl, hcap, hcm⟩ : ∃ rb cap, v = .slice (some ⟨rb, 0, none⟩) (KL + 1) cap ∧ KL + 1 ≤ cap ∧ cap ≤ maxLen := by
    rcases own_shape hW.row with ⟨_, e, _⟩ | ⟨b, cap, rfl, h1, h2, _, _⟩
    ·simp at e
    ·exact ⟨b, cap, by rw [hl1], by rw [← hl1]; exact h1, h2⟩
   have y0 : wr.cell? ⟨rb, KL, none⟩ = some (.int .i64 k) := by
    have h1 := hW.row
    rw [hl1] at h1
    rw [h1.cellAt KL (by omega)]
    exact vals_get (by rw [← hKL]; simp)
   obtain ⟨W3, hW3⟩ : ∃ W, wr.setCell ⟨bx, 0, none⟩ (.slice (some ⟨rb, 0, none⟩) KL cap) = W := ⟨_, rfl⟩
   have hbF := hW.nbox
   have hrF := hW.nrow rb rfl
   have hrl : w.heap.size ≤ rb := (hW.row.lt rb rfl).1
   have hg3 : wr.grownBy W3 (some bx) := by rw [← hW3]; exact grown_set (grown_refl _ _) 0 _
   have hk3 : Keeps [bx] wr W3 := by rw [← hW3]; exact (Keeps.refl _ _).set (.inl (by simp)) _
   have hJ3 : J pre F W3 := HOK.out.keep _ _ _ _ _ hJ hk3 (fun x hx => by simp at hx; subst hx; exact ⟨Nat.le_trans hn hW.low, hbF⟩)
   have hrow3 : wr.ownsRow w.heap.size 3 1 (.slice (some ⟨rb, 0, none⟩) KL cap) KL (vals K') := by
    have h1 := hW.row
    rw [hl1] at h1
    have h2 := own_cut h1 KL (by omega)
    have e : (vals (K' ++ [k])).take (KL * 1) = vals K' := by rw [Nat.mul_one, vals_append, List.take_append_of_le_length (by simp [vals, hKL]), List.take_of_length_le (by simp [vals, hKL])]
    rw [e] at h2; exact h2
   have hbr : bx ≠ rb := fun e => own_apart hW.row hW.box (by decide) (by rw [e]; rfl)
   have hW3' : Wt W3 w.heap.size bx F (.slice (some ⟨rb, 0, none⟩) KL cap) K' := by
    refine ⟨?_, ?_, hW.low, hbF, fun q hq => by simp [Value.ownBlock] at hq; subst hq; exact hrF⟩
    ·rw [← hW3]; simpa using hW.box.set 0 (.slice (some ⟨rb, 0, none⟩) KL cap)
    ·rw [hKL]
     exact own_keeps hrow3 hk3 (fun q hq => by simp [Value.ownBlock] at hq; subst hq; simpa using fun e => hbr e.symm)
   have hM3 : Marks w.heap.size W3 D := hM.grown hg3 (fun r hr => by injection hr with hr; subst hr; have := hW.box; unfold At at this; exact ⟨_, _, _, this⟩)
   have hs3 : w.heap.size ≤ W3.heap.size := Nat.le_trans hsz hk3.size
   have HJ3 := Lib.hid hJ3
   have HWT3 := Lib.hid hW3'
   have HM3 := Lib.hid hM3
   have HW3 := Lib.hid hW3
   have hk0 : (0 : Int) ≤ (KL : Int) := by omega
   have hcap63 : cap ≤ 9223372036854775807 := by unfold maxLen at hcm; omega
   have hwl : IntKind.i64.wrap ((KL : Int) + 1 - 1) = (KL : Int) := by rw [IntKind.wrap_i64]; simp at hKl; omega
   have HKL := Lib.hid hKL
   have hkB := hKB k (by simp)
   have HKB := Lib.hid (fun q (hq : q ∈ K') => hKB q (by simp [hq]))
   have hnot := i64_not_any k ⟨hkB.1, by omega⟩
   clear hKB hW hJ hgk hM hg3 hk3 hJ3 hrow3 hW3' hM3 hW3 hcm hl1 HW
   by_cases hneg : k < 0
   ·have hex := Tr.expR_leave (L := L) K' k hneg
    have hE2 : (pre ++ [(-1 - k, false)]) ++ Tr.expR L K' = E := by rw [← HE.out, hex]; simp
    have hpre : (pre ++ [(-1 - k, false)]) <+: E := ⟨_, hE2⟩
    have HLV := Lib.hid (HOK.out.leave pre F W3 (-1 - k) HJ3.out hpre)
    have HE2 := Lib.hid hE2
    have HEX := Lib.hid hex
    clear hex hE2 hpre hE hKL
    have hent := HOK.out.entL
    go_wp2_with fail
    rw [HW3.out]
    refine HLV.out.mono ?_
    rintro e w4 ⟨rfl, F', hJ4, hk4, hF4⟩
    have hW4 := HWT3.out.keeps hk4 hF4
    have hM4 := HOK.out.marks HJ3.out hk4 HM3.out
    have hlt4 := HOK.out.lt hJ4
    have hs4 : w.heap.size ≤ w4.heap.size := Nat.le_trans hs3 hk4.size
    have q0 := hW4.box.cell 0
    simp at q0
    have HJ5 := Lib.hid (HOK.out.keep _ _ _ (w4.alloc (.cells #[.slice (some ⟨rb, 0, none⟩) KL cap] 32)) [] hJ4 ((Keeps.refl _ _).alloc _) (by simp))
    have HW5 := Lib.hid (show Wt (w4.alloc (.cells #[.slice (some ⟨rb, 0, none⟩) KL cap] 32)) w.heap.size w4.heap.size F' (.slice (some ⟨rb, 0, none⟩) KL cap) K' from
     ⟨At.new w4 _ _, hW4.row.alloc _, hs4, fun hm => by have := hlt4 _ hm; omega, hW4.nrow⟩)
    have HM5 := Lib.hid (hM4.below ((Below.refl w4.heap.size w4).alloc (Nat.le_refl _) (.cells #[.slice (some ⟨rb, 0, none⟩) KL cap] 32)))
    clear hW4 hM4 hJ4 hk4 hF4 hlt4 hent HLV
    go_wp2_with fail
    refine ⟨(Tr.expR L K').length, by rw [HGK.out, HEX.out]; simp, _, _, _, _, _, _, _, _, _, _, _, _, _, _, _, _, _, _, _, _, _, _, _, _, _, _, _, _, _, _, _, _, _, _, _, _, _, _, _, _, _, _, _, _, _, K', _, F', D, ⟨rfl, HW5.out, HJ5.out, HE2.out, rfl, HM5.out, by simp; omega, HKB.out⟩, rfl⟩
   ·have hex := Tr.expR_enter HDN.out K' k (by omega)
    have hE2 : (pre ++ [(k, true)]) ++ Tr.expR L (K' ++ [-1 - k] ++ (Tr.kidsOf L k).reverse) = E := by rw [← HE.out, hex]; simp
    have hpre : (pre ++ [(k, true)]) <+: E := ⟨_, hE2⟩
    have HEN := Lib.hid (HOK.out.enter pre F W3 k HJ3.out hpre)
    have HE2 := Lib.hid hE2
    have HEX := Lib.hid hex
    have hKids := HDN.out k
    clear hex hE2 hpre hE hKL
    have hent := HOK.out.entE
    have hfd := nfield_kids
    go_wp2_with fail
    rw [HW3.out]
    refine HEN.out.mono ?_
    rintro e w4 ⟨rfl, F', hJ4, hk4, hF4⟩
    have hW4 := HWT3.out.keeps hk4 hF4
    have hM4 := HOK.out.marks HJ3.out hk4 HM3.out
    have hlt4 := HOK.out.lt hJ4
    have hs4 : w.heap.size ≤ w4.heap.size := Nat.le_trans hs3 hk4.size
    have q0 := hW4.box.cell 0
    have qf := hW4.box.frozen 0
    simp at q0
    have HJ4 := Lib.hid hJ4
    have HWT4 := Lib.hid hW4
    have HM4 := Lib.hid hM4
    have HLT4 := Lib.hid hlt4
    have hbl := hW4.box.lt
    have HROW := Lib.hid (show w4.ownsRow w.heap.size 3 1 (.slice (some ⟨rb, 0, none⟩) KL cap) KL (vals K') from by have := hW4.row; rw [HKL.out] at this; exact this)
    obtain ⟨i0, hi0', hz0', hz1', hz2'⟩ := info_parts infoIntW
    have HNOT := Lib.hid (show bits .xor .i64 (if IntKind.i64.signed = true then -1 else 9223372036854775807) k = -1 - k from hnot)
    have hq1 : KL + 1 ≤ 800000 := by have := HKL.out; simp at hKl; omega
    clear hW4 hM4 hJ4 hk4 hF4 hlt4 hent HEN
    go_wp2_with (at_builtin; refine wpList_append_own2 _ rfl (.tmp 41) (.tmp 44) 32 rfl w.heap.size 3 i0 _ 1 8 Tryz.underlying32 hi0' hz0' hz1' hz2' rfl (by decide) (.slice (some ⟨rb, 0, none⟩) KL cap) KL (vals K') rfl (HROW.out.alloc _) ⟨w4.heap.size, 0, none⟩ 1 1 [.int .i64 (bits .xor .i64 (if IntKind.i64.signed = true then -1 else 9223372036854775807) k)] rfl rfl (cells_new _ _ _) (by simp [Value.oneCell']) (by unfold maxLen; omega) (by omega) (by simp; omega) ?_; intro v5 w5 ho5 hg5 hn5; rw [HNOT.out] at ho5; obtain ⟨a5, c5, rfl⟩ := own_form ho5; have hk5 : Keeps [rb] w4 w5 := ((Keeps.refl [rb] w4).alloc _).grown hg5 (fun q hq => by simp [Value.ownBlock] at hq; subst hq; exact .inl (by simp)); have hA5 := At.keeps HWT4.out.box hk5 (by simpa using hbr); have p5 := hA5.cell 0; have z5 := hA5.frozen 0; simp at p5; have HO5 := Lib.hid ho5; have HN5 := Lib.hid hn5; have HK5 := Lib.hid hk5; have HA5 := Lib.hid hA5; clear ho5 hg5 hn5 hk5 hA5)
    have ho5 := HO5.out
    have hn5 := HN5.out
    have hk5 := HK5.out
    have hA5 := HA5.out
    obtain ⟨W6, hW6⟩ : ∃ W, w5.setCell ⟨bx, 0, none⟩ (.slice a5 (KL + 1) c5) = W := ⟨_, rfl⟩
    have hk6 : Keeps [bx, rb] w4 W6 := by rw [← hW6]; exact (hk5.mono (S' := [bx, rb]) (fun x hx => .inl (by simp at hx; simp [hx]))).set (.inl (by simp)) _
    have hrF4 : rb ∉ F' := HWT4.out.nrow rb rfl
    have hbF4 : bx ∉ F' := HWT4.out.nbox
    have hJ6 : J (pre ++ [(k, true)]) F' W6 := HOK.out.keep _ _ _ _ _ HJ4.out hk6 (fun x hx => by
     simp at hx
     rcases hx with rfl | rfl
     ·exact ⟨Nat.le_trans hn HWT4.out.low, hbF4⟩
     ·exact ⟨Nat.le_trans hn hrl, hrF4⟩)
    have hb5 : (Value.slice a5 (KL + 1) c5).ownBlock ≠ some bx := own_apart ho5 hA5 (by decide)
    have hWt6 : Wt W6 w.heap.size bx F' (.slice a5 (KL + 1) c5) (K' ++ [-1 - k]) := by
     refine ⟨?_, ?_, HWT4.out.low, hbF4, fun q hq hm => ?_⟩
     ·rw [← hW6]; simpa using hA5.set 0 (.slice a5 (KL + 1) c5)
     ·have e : vals (K' ++ [-1 - k]) = vals K' ++ [.int .i64 (-1 - k)] := by rw [vals_append]; rfl
      rw [e, show (K' ++ [-1 - k]).length = KL + 1 by simp [HKL.out], ← hW6]
      exact own_keeps ho5 ((Keeps.refl [bx] w5).set (.inl (by simp)) _) (fun q hq hm => hb5 (by simp at hm; rw [hq, hm]))
     ·rcases hn5 q hq with h1 | h1
      ·simp [Value.ownBlock] at h1; subst h1; exact hrF4 hm
      ·have := HLT4.out q hm
       simp at h1; omega
    have hM6 : Marks w.heap.size W6 D := by
     refine HM4.out.keeps fun r hr => ?_
     rw [← hW6]
     refine def_set ?_
     rw [hk5.block r (Array.getElem?_eq_some_iff.1 hr).1 (fun e => by
      simp at e; subst e
      obtain ⟨cs, t, fr, e'⟩ := own_cells HROW.out r rfl
      rw [hr] at e'; cases e')]
     exact hr
    have hs6 : w.heap.size ≤ W6.heap.size := Nat.le_trans hs4 hk6.size
    have hT6 := HOK.out.tree _ _ _ hJ6
    have hat := tat_parts k W6 B tg g mb l m S hT6
    have hkid := HTREE.out.kid k
    rw [slAt_x] at hkid
    rw [HL.out] at hat hkid
    obtain ⟨⟨y0', y1', y2', y3', ⟨y4', y5', y6'⟩, R⟩, hY⟩ : ∃ y, Tr.at_ L k = y := ⟨_, rfl⟩
    have HR := Lib.hid (show Tr.kidsOf L k = R by unfold Tr.kidsOf; rw [hY])
    rw [hY] at hat hkid
    dsimp only at hat hkid
    obtain ⟨A, hA⟩ : ∃ A, (slAt S k).A = A := ⟨_, rfl⟩
    have HAS := Lib.hid hA
    obtain ⟨c, hc⟩ : ∃ c, (slAt S k).c = c := ⟨_, rfl⟩
    rw [hA] at hat hkid
    rw [hc] at hat
    obtain ⟨RN, hRN⟩ : ∃ n, R.length = n := ⟨_, rfl⟩
    rw [hRN] at hat
    have HRN := Lib.hid hRN
    have HAT := Lib.hid hat
    have HKID := Lib.hid hkid
    have HJ6 := Lib.hid hJ6
    have HWT6 := Lib.hid hWt6
    have HM6 := Lib.hid hM6
    have HW6 := Lib.hid hW6
    have hbl6 : bx < W6.heap.size := hWt6.box.lt
    clear hk5 hA5 hk6 hJ6 hWt6 hM6 hW6 ho5 hn5 hT6 hat hkid hRN hA hc hY hb5 q0 qf p5 z5
    rw [HW6.out]
    refine HAT.out.mono ?_
    rintro e w7 ⟨rfl, hb7⟩
    have HB7 := Lib.hid hb7
    have hs7 := hb7.size
    clear hb7 HAT
    go_wp2_with fail
    refine (backward_any A RN c w7).mono ?_
    rintro e w8 ⟨rfl, hw8⟩
    have hBs := At.new w7 32 #[.slice A RN c]
    have hb8 : Below w7.heap.size w7 w8 := by rw [hw8]; exact (Below.refl _ _).alloc (Nat.le_refl _) _
    rw [← hw8] at hBs
    have hs8 : w8.heap.size = w7.heap.size + 1 := by rw [hw8]; simp
    have hb68 : Below W6.heap.size W6 w8 := HB7.out.trans (hb8.mono hs7)
    have HJ8 := Lib.hid (HOK.out.keep _ _ _ w8 [] HJ6.out (keeps_of_below hb68 _) (by simp))
    have HWT8 := Lib.hid (HWT6.out.below hb68)
    have HM8 := Lib.hid (HM6.out.below hb68)
    have HBS := Lib.hid hBs
    have HS8 := Lib.hid hs8
    have HC8 := Lib.hid (show ∀ q x, R[q]? = some x → ∃ b o, A = some ⟨b, o, none⟩ ∧ b < w.heap.size ∧ b < w8.heap.size ∧ w8.cell? ⟨b, o + q, none⟩ = some (.int .i64 x) from fun q x hx => by
     obtain ⟨b, o, e1, e2, e3⟩ := lieW_at HKID.out.1 hx
     have hTr8 := (HOK.out.tree _ _ _ HJ8.out).kid k
     rw [slAt_x, HL.out] at hTr8
     have hl8 := hTr8.1
     have e4 : (Tr.at_ L k).kids = R := HR.out
     rw [e4] at hl8
     have e5 : (slAt S k).A = some ⟨b, o, none⟩ := HAS.out.trans e1
     rw [e5] at hl8
     obtain ⟨b', o', f1, f2, f3⟩ := lieW_at hl8 hx
     cases f1
     exact ⟨b, o, e1, e2, f2, f3⟩)
    clear hw8 hBs hb8 hb68 hs8
    have HKW := Lib.hid (show ∀ x ∈ R, 0 ≤ x ∧ x < k from fun x hx => hKids x (by rw [HR.out]; exact hx))
    clear hKids
    go_wp2_with fail
    refine (wpIn_wide (n := 4)).1 ?_
    refine wpIn_rangeFunc_ownG rfl (by omega) (gf := 88) (lb := #[.pointer (some ⟨w7.heap.size, 0, none⟩)]) rfl trivial (enters_of Tryz.func88 (by kernel_rfl) rfl)
     (backT_stops 3 (by omega) w7.heap.size w.heap.size R A c w8 (by rw [HRN.out]; exact HBS.out.cell 0) HC8.out (by have := HKID.out.2; exact this)) (fun h k => h.trans k) (fun W l o o' hl h _ _ => KpB.put (by have := HS8.out; omega) (by have := HS8.out; omega) W l o o' hl h) (Below.refl _ _) (fun _ => rfl)
     (fun ys W => InW w.heap.size bx w8.heap.size w7.heap.size RN A c R F' (K' ++ [-1 - k]) (fun W => J (pre ++ [(k, true)]) F' W) w8 ys W)
     (fun c ys W => False)
     (inW_own rfl (fun W W' row h hg hr => HOK.out.own _ _ _ _ _ h hg (fun r e => ⟨by have := (hr r e).1; have := HS8.out; omega, (hr r e).2⟩))) (fun c => fun s W W' row h _ _ => h.elim) ⟨⟨_, by simpa using HWT8.out⟩, HJ8.out, fun r h => h, HBS.out, Nat.le_refl _⟩
     (fun x => { tmps := #[.pointer (some ⟨tg, 0, none⟩), .int .i64 i, .func (.func fe) #[] ce, .func (.func fl) #[] cl, undef, undef, undef, undef, .pointer (some ⟨bx, 0, none⟩), .int .i64 (KL : Int), .int .i64 k, undef, .int .i64 (atB R x), .pointer (some ⟨tg, 0, none⟩), .int .i64 i, .bool true, .bool false, .int .i64 i, .slice (some ⟨w1.heap.size, 0, none⟩) 1 1, .slice (some ⟨rb, 0, none⟩) (KL + 1) cap, .int .i64 ((KL : Int) + 1), .bool true, .slice (some ⟨rb, 0, none⟩) (KL + 1) cap, .int .i64 ((KL : Int) + 1), .int .i64 (KL : Int), .slice (some ⟨rb, 0, none⟩) (KL + 1) cap, .int .i64 (KL : Int), .pointer (some ⟨rb, KL, none⟩), .int .i64 k, .slice (some ⟨rb, 0, none⟩) (KL + 1) cap, .int .i64 (KL : Int), .slice (some ⟨rb, 0, none⟩) KL cap, .int .i64 k, .bool false, u34, u35, u36, u37, .func (.func fe) #[] ce, .int .i64 k, .tuple #[], .slice (some ⟨rb, 0, none⟩) KL cap, .int .i64 k, .int .i64 (-1 - k), .slice (some ⟨w4.heap.size, 0, none⟩) 1 1, .slice a5 (KL + 1) c5, .pointer (some ⟨tg, 0, none⟩), .int .i64 k, .agg #[.bool y0', .bool y1', .int .i64 y2', .int .i64 y3', .int .i64 y4', .int .i64 y5', .int .i64 y6', .slice A RN c], .slice A RN c, .func (.func 88) #[] #[.pointer (some ⟨w7.heap.size, 0, none⟩)], .int .i64 (x : Int), .int .i64 (atB R x), u53, u54, u55, u56, u57], defers := [] }) ?assign ?body ?done ?stop
    case assign =>
     intro l x W KK hK
     unfold encB
     gi_wp2
     exact hK
    case body =>
     rintro l' ys x W hI hlt
     obtain ⟨v8, hv⟩ := hI.wt
     obtain ⟨KY, hKY⟩ : ∃ KY, K' ++ [-1 - k] ++ ys.map (atB R) = KY := ⟨_, rfl⟩
     rw [hKY] at hv
     obtain ⟨NY, hNY⟩ : ∃ n, KY.length = n := ⟨_, rfl⟩
     have hNY1 : NY ≠ 0 ∧ NY ≤ 2000000 := by
      rw [← hNY, ← hKY]
      simp only [List.length_append, List.length_cons, List.length_nil, List.length_map]
      have h1 := HKL.out
      have h2 := HKID.out.2
      omega
     obtain ⟨ry, cy, rfl⟩ : ∃ b c, v8 = .slice (some ⟨b, 0, none⟩) NY c := by
      rcases own_shape hv.row with ⟨_, e, _⟩ | ⟨b, cap, rfl, _⟩
      ·exact absurd (hNY.symm.trans e) hNY1.1
      ·exact ⟨b, cap, by rw [hNY]⟩
     have hrowY : W.ownsRow w.heap.size 3 1 (.slice (some ⟨ry, 0, none⟩) NY cy) NY (vals KY) := by have := hv.row; rw [hNY] at this; exact this
     have hry : ry ≠ bx := fun e => own_apart hrowY hv.box (by decide) (by rw [e]; rfl)
     have hryl : w.heap.size ≤ ry ∧ ry < W.heap.size := hrowY.lt ry rfl
     have q0 := hv.box.cell 0
     have qf := hv.box.frozen 0
     simp at q0
     have HROWY := Lib.hid hrowY
     have HVB := Lib.hid hv
     have HI := Lib.hid hI
     have HKY := Lib.hid hKY
     have HNY := Lib.hid hNY
     have hsW := hI.size
     have hbW := hv.box.lt
     obtain ⟨i0, hi0', hz0', hz1', hz2'⟩ := info_parts infoIntW
     obtain ⟨X, hX⟩ : ∃ X, atB R x = X := ⟨_, rfl⟩
     have HX := Lib.hid hX
     rw [hX]
     clear hrowY hv hI hKY hNY hX
     dsimp only
     gi_wp2_with (gi_at_builtin; refine wpListIn_append_own2 _ rfl (.tmp 53) (.tmp 55) 32 rfl w.heap.size 3 i0 _ 1 8 Tryz.underlying32 hi0' hz0' hz1' hz2' rfl (by decide) (.slice (some ⟨ry, 0, none⟩) NY cy) NY (vals KY) rfl (HROWY.out.alloc _) ⟨W.heap.size, 0, none⟩ 1 1 [.int .i64 X] rfl rfl (cells_new _ _ _) (by simp [Value.oneCell']) (by unfold maxLen; omega) (by omega) (by simp; omega) ?_; intro v5 w5 ho5 hg5 hn5; obtain ⟨a5', c5', rfl⟩ := own_form ho5; have hk5 : Keeps [ry] W w5 := ((Keeps.refl [ry] W).alloc _).grown hg5 (fun q hq => by simp [Value.ownBlock] at hq; subst hq; exact .inl (by simp)); have hA5 := At.keeps HVB.out.box hk5 (by simpa using fun e => hry e.symm); have p5 := hA5.cell 0; have z5 := hA5.frozen 0; simp at p5; have HO5 := Lib.hid ho5; have HN5 := Lib.hid hn5; have HK5 := Lib.hid hk5; have HA5 := Lib.hid hA5; clear ho5 hg5 hn5 hk5 hA5)
     have hk6 : Keeps [bx, ry] W (w5.setCell ⟨bx, 0, none⟩ (.slice a5' (NY + 1) c5')) := (HK5.out.mono (S' := [bx, ry]) (fun x hx => .inl (by simp at hx; simp [hx]))).set (.inl (by simp)) _
     have hcb : ∀ r : Nat, r = bx ∨ r = ry → ∃ (cs : Array Value) (t : TypeId) (fr : Nat × Nat), W.heap[r]? = some (Obj.cells cs t fr) := fun r hr => by
      rcases hr with rfl | rfl
      ·have := HVB.out.box; unfold At at this; exact ⟨_, _, _, this⟩
      ·exact own_cells HROWY.out r rfl
     refine ⟨⟨hk6.size, fun r o _ hr ho => (hk6.block r (Array.getElem?_eq_some_iff.1 hr).1 (fun hm => by
      obtain ⟨cs, t, fr, e⟩ := hcb r (by simpa using hm)
      rw [hr] at e; cases e; cases ho)).trans hr⟩, ⟨hk6.size, ?_, ?_⟩, ⟨⟨.slice a5' (NY + 1) c5', ?_, ?_, HVB.out.low, HVB.out.nbox, ?_⟩, ?_, ?_, ?_, ?_⟩⟩
     ·refine hk6.block _ (by have := HS8.out; omega) (fun hm => ?_)
      simp at hm
      rcases hm with e | e
      ·have := hbl6; omega
      ·have h1 := HI.out.bs
       rw [e] at h1
       exact own_apart HROWY.out h1 (by decide) rfl
     ·intro b o e hb
      refine hk6.block _ (by omega) (fun hm => ?_)
      simp at hm
      rcases hm with e | e
      ·have := HVB.out.low; omega
      ·omega
     ·simpa using HA5.out.set 0 (.slice a5' (NY + 1) c5')
     ·have e : K' ++ [-1 - k] ++ (ys ++ [x]).map (atB R) = KY ++ [X] := by rw [List.map_append, ← List.append_assoc, HKY.out]; simp [HX.out]
      rw [e, show (KY ++ [X]).length = NY + 1 by simp [HNY.out], vals_append]
      have hb5 : (Value.slice a5' (NY + 1) c5').ownBlock ≠ some bx := own_apart HO5.out HA5.out (by decide)
      exact own_keeps HO5.out ((Keeps.refl [bx] w5).set (.inl (by simp)) _) (fun q hq hm => hb5 (by simp at hm; rw [hq, hm]))
     ·intro q hq hm
      rcases HN5.out q hq with h1 | h1
      ·simp [Value.ownBlock] at h1; subst h1; exact HVB.out.nrow _ rfl hm
      ·have := HOK.out.lt HI.out.j q hm
       simp at h1; omega
     ·refine HOK.out.keep _ _ _ _ _ HI.out.j hk6 (fun q hq => ?_)
      simp at hq
      rcases hq with rfl | rfl
      ·exact ⟨Nat.le_trans hn HVB.out.low, HVB.out.nbox⟩
      ·exact ⟨Nat.le_trans hn hryl.1, HVB.out.nrow _ rfl⟩
     ·intro r hr
      have h1 := HI.out.defs r hr
      rw [hk6.block r (Array.getElem?_eq_some_iff.1 h1).1 (fun hm => by
       obtain ⟨cs, t, fr, e⟩ := hcb r (by simpa using hm)
       rw [h1] at e; cases e)]
      exact h1
     ·refine HI.out.bs.keeps hk6 (fun hm => ?_)
      simp at hm
      rcases hm with e | e
      ·have := hbl6; omega
      ·have h1 := HI.out.bs
       rw [e] at h1
       exact own_apart HROWY.out h1 (by decide) rfl
     ·exact Nat.le_trans HI.out.size hk6.size
    case done =>
     rintro DD ys W hDl hys hI hdef
     obtain ⟨v8, hv⟩ := hI.wt
     rw [hys, dn_rev] at hv
     obtain ⟨a8, n8, c8, rfl⟩ : ∃ a n c, v8 = .slice a n c := by
      obtain ⟨a8, c8, e⟩ := own_form hv.row
      exact ⟨a8, _, c8, e⟩
     have q0 := hv.box.cell 0
     simp at q0
     have HK := Lib.hid (show K' ++ [-1 - k] ++ R.reverse = K' ++ [-1 - k] ++ (Tr.kidsOf L k).reverse by rw [HR.out])
     have hwl8 := hI.size
     have hlt8 := HOK.out.lt hI.j
     have HMW := Lib.hid (show Marks w.heap.size W ({ target := .collected DD, args := #[] } :: D) from
      Marks.cons (HM8.out.keeps hI.defs) (by have := HS8.out; omega) hdef (fun d hd e => by
       obtain ⟨r, h1, h2, h3⟩ := HM8.out.at_ d hd
       rw [h1] at e
       injection e with e
       have := (Array.getElem?_eq_some_iff.1 h3).1
       omega))
     have hb9 := (Below.refl W.heap.size W).alloc (Nat.le_refl _) (.cells #[.slice a8 n8 c8] 32)
     have HM9 := Lib.hid (HMW.out.below hb9)
     have HJ9 := Lib.hid (HOK.out.keep _ _ _ (W.alloc (.cells #[.slice a8 n8 c8] 32)) [] hI.j ((Keeps.refl _ _).alloc _) (by simp))
     have HW9 := Lib.hid (show Wt (W.alloc (.cells #[.slice a8 n8 c8] 32)) w.heap.size W.heap.size F' (.slice a8 n8 c8) (K' ++ [-1 - k] ++ R.reverse) from
      ⟨At.new W _ _, hv.row.alloc _, by have := HS8.out; omega, fun hm => by have := hlt8 _ hm; omega, hv.nrow⟩)
     have hs9 : w.heap.size ≤ W.heap.size + 1 := by have := HS8.out; omega
     clear hv hI hdef hys hlt8 hb9
     dsimp only
     go_wp2_with fail
     refine ⟨(Tr.expR L (K' ++ [-1 - k] ++ R.reverse)).length, by rw [HGK.out, HEX.out, ← HK.out]; simp, _, _, _, _, _, _, _, _, _, _, _, _, _, _, _, _, _, _, _, _, _, _, _, _, _, _, _, _, _, _, _, _, _, _, _, _, _, _, _, _, _, _, _, _, _, K' ++ [-1 - k] ++ R.reverse, _, F', _, ⟨rfl, HW9.out, HJ9.out, by rw [HK.out]; exact HE2.out, rfl, HM9.out, by simp; exact hs9, ?_⟩, rfl⟩
     intro q hq
     simp only [List.mem_append, List.mem_reverse, List.mem_cons, List.not_mem_nil, or_false] at hq
     rcases hq with (hq | rfl) | hq
     ·exact HKB.out q hq
     ·omega
     ·have := HKW.out q hq
      omega
    case stop =>
     rintro DD c' ys W _ _ hF _
     exact hF.elim
end Go.Proofs.YtdhhkancbgealaaGreat
