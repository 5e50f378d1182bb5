import Derived.Test.YtddjmhhdpfebkaaScM
import Derived.Test.YtddjmhhdpfebkaaOwn
import Derived.Test.YtddjmhhdpfebkaaOps3
import Derived.Deep.Strs
import Derived.SizedLaws
import Derived.Laws.AppendOwn
import Derived.Laws.Append
import Derived.ArgAppend
namespace Go.Proofs.Ytddjmhhdpfebkaa
set_option maxRecDepth 100000
open Go.RowKit Go.ChangeShapes Go.WideShapes Go.ChangeAt
set_option linter.unusedVariables false
set_option linter.unusedSimpArgs false
theorem own_form {w : World} {B e size n : Nat} {v : Value} {xs : List Value} (h : w.ownsRow B e size v n xs) : ∃ ao cap, v = .slice ao n cap := by
 rcases own_shape h with ⟨rfl, rfl, _⟩ | ⟨g, cap, rfl, _⟩
 ·exact ⟨none, 0, rfl⟩
 ·exact ⟨_, cap, rfl⟩
theorem own_lt {w : World} {B e size n : Nat} {v : Value} {xs : List Value} (h : w.ownsRow B e size v n xs) : ∀ k, v.ownBlock = some k → B ≤ k ∧ k < w.heap.size := fun k hk => h.lt k hk
theorem below_drew {B : Nat} {a w : World} (h : Below B a w) : Below B a w.drew := ⟨h.os, h.tape, h.output, h.size, h.block⟩
theorem below_set {B : Nat} {a w : World} (h : Below B a w) {p : Addr} (hp : B ≤ p.block) (u : Value) : Below B a (w.setCell p u) :=
 ⟨h.os, h.tape, h.output, by simpa [World.setCell] using h.size, fun i hi => (Below.heap_setCell w p u i (fun e => by omega)).trans (h.block i hi)⟩
theorem below_up {w W : World} (h : Below w.heap.size w W) (o : Obj) : Below w.heap.size w (W.alloc o) := h.alloc h.size o
theorem cells_new (w : World) (cs : List Value) (t : TypeId) : ∀ j u, cs[j]? = some u → (w.alloc (.cells cs.toArray t)).cell? ((⟨w.heap.size, 0, none⟩ : Addr).add j) = some u := by
 intro j u h
 rw [Go.WideShapes.add_plain, (At.new w t cs.toArray).cell]
 simpa using h
structure Cl (w : World) (B : Nat) (A : Option Addr) (xs : List Value) : Prop where
 ex : xs ≠ [] → ∃ b o, A = some ⟨b, o, none⟩ ∧ b < B ∧ ∀ (j : Nat) (u : Value), xs[j]? = some u → w.cell? ⟨b, o + j, none⟩ = some u
theorem Cl.nil (w : World) (B : Nat) (A : Option Addr) : Cl w B A [] := ⟨fun h => absurd rfl h⟩
theorem Cl.below {w w' : World} {B : Nat} {A : Option Addr} {xs : List Value} (h : Cl w B A xs) (hb : Below B w w') : Cl w' B A xs := ⟨fun hn => by
 obtain ⟨b, o, h1, h2, h3⟩ := h.ex hn
 exact ⟨b, o, h1, h2, fun j u hu => (hb.cell (p := ⟨b, _, none⟩) h2).trans (h3 j u hu)⟩⟩
theorem Cl.mono {w : World} {B B' : Nat} {A : Option Addr} {xs : List Value} (h : Cl w B A xs) (hB : B ≤ B') : Cl w B' A xs := ⟨fun hn => by
 obtain ⟨b, o, h1, h2, h3⟩ := h.ex hn
 exact ⟨b, o, h1, by omega, h3⟩⟩
structure Lie (w : World) (t : TypeId) (A : Option Addr) (xs : List Value) : Prop where
 ex : xs ≠ [] → ∃ b o cs, A = some ⟨b, o, none⟩ ∧ At w b t cs ∧ ∀ (j : Nat) (u : Value), xs[j]? = some u → cs[o + j]? = some u
section
variable {w w' : World} {t : TypeId} {A : Option Addr} {xs : List Value}
theorem Lie.nil (w : World) (t : TypeId) (A : Option Addr) : Lie w t A [] := ⟨fun h => absurd rfl h⟩
def Stay (t : TypeId) (w w' : World) : Prop := ∀ b cs, At w b t cs → At w' b t cs
theorem Stay.refl (t : TypeId) (w : World) : Stay t w w := fun _ _ h => h
theorem Stay.trans {a : World} (h : Stay t a w) (k : Stay t w w') : Stay t a w' := fun b cs hb => k b cs (h b cs hb)
theorem Stay.below (h : Below w.heap.size w w') : Stay t w w' := fun b cs hb => hb.below h hb.lt
theorem Stay.far {g : Nat} {t' : TypeId} {cs : Array Value} (hg : At w g t' cs) (ht : t ≠ t') (hk : w.grownBy w' (some g)) : Stay t w w' := fun b cs' hb =>
 hb.grown hk (fun e => by
  injection e with e
  subst e
  unfold At at hg hb
  rw [hg] at hb
  injection hb with hb
  injection hb with _ hb
  exact ht hb.symm)
theorem Stay.own {B e size n : Nat} {v : Value} {ys : List Value} (ho : w.ownsRow B e size v n ys) (ht : t ≠ e) (hk : w.grownBy w' v.ownBlock) : Stay t w w' := fun b cs hb =>
 hb.grown hk (fun e => own_apart ho hb ht e.symm)
theorem Lie.stay (h : Lie w t A xs) (hs : Stay t w w') : Lie w' t A xs :=
 ⟨fun hn => by
  obtain ⟨b, o, cs, h1, h2, h3⟩ := h.ex hn
  exact ⟨b, o, cs, h1, hs b cs h2, h3⟩⟩
theorem Lie.below (h : Lie w t A xs) (hb : Below w.heap.size w w') : Lie w' t A xs := h.stay (Stay.below hb)
theorem Lie.drew (h : Lie w t A xs) : Lie w.drew t A xs := ⟨h.ex⟩
theorem Lie.alloc (h : Lie w t A xs) (o : Obj) : Lie (w.alloc o) t A xs := h.below ((Below.refl _ _).alloc (Nat.le_refl _) o)
theorem Lie.cell (h : Lie w t A xs) (hn : xs ≠ []) : ∃ b o, A = some ⟨b, o, none⟩ ∧ b < w.heap.size ∧ ∀ (j : Nat) (u : Value), xs[j]? = some u → w.cell? ⟨b, o + j, none⟩ = some u := by
 obtain ⟨b, o, cs, h1, h2, h3⟩ := h.ex hn
 exact ⟨b, o, h1, h2.lt, fun j u hj => (h2.cell _).trans (h3 j u hj)⟩
theorem Lie.cl (h : Lie w t A xs) : Cl w w.heap.size A xs := ⟨fun hn => h.cell hn⟩
theorem Lie.own {B size n cap m : Nat} (h : w.ownsRow B t size (.slice A n cap) m xs) : Lie w t A xs :=
 ⟨fun hn => by
  rcases h.2 with ⟨_, hx⟩ | ⟨g, cap', cur, e, hb, hg, hnc, hcm, hcs, htake⟩
  ·have hl := h.1
   subst hx
   exact absurd (List.eq_nil_of_length_eq_zero (by simpa using hl)) hn
  ·injection e with e1 _ _
   subst e1
   refine ⟨g, 0, cur, rfl, hg, fun j u hj => ?_⟩
   rw [← htake, List.getElem?_take] at hj
   split at hj
   ·rw [Nat.zero_add, ← Array.getElem?_toList]; exact hj
   ·cases hj⟩
theorem own_stay {B e size n : Nat} {v : Value} {ys : List Value} (h : w.ownsRow B e size v n ys) (hs : Stay e w w') : w'.ownsRow B e size v n ys := by
 refine ⟨h.1, ?_⟩
 rcases h.2 with hn | ⟨g, cap, cur, rfl, hb, hgg, rest⟩
 ·exact .inl hn
 ·exact .inr ⟨g, cap, cur, rfl, hb, hs g cur hgg, rest⟩
end
section
variable {P : Program} (w : World)
def Grows (n m bytes : Nat) : Prop := ∀ old, n ≤ old → old < n + m → Builtin.nextslicecap (n + m) old * bytes ≤ 281474976710656
theorem Grows.of {n m bytes : Nat} (h : (n + m) * bytes ≤ 140737488355328) : Grows n m bytes := fun old _ h2 => growslice_fits h2 h
theorem Grows.token {n N : Nat} (h : n < N) (hN : N * 40 ≤ 140737488355328) : Grows n 1 56 := fun old h1 h2 => by
 obtain rfl : old = n := by omega
 unfold Builtin.nextslicecap
 split
 ·omega
 ·split
  ·omega
  ·rw [growBy_four]
   repeat' split
   all_goals omega
theorem run_append_own5 (base : Nat) (t ty e : TypeId) (i : TypeInfo) (z : Value) (size bytes : Nat) (ht : P.underlying t = some (.slice e)) (hi : P.info? e = some i) (hz : i.zero = some z)
  (hsize : i.size = size) (hby : i.bytes = bytes) (hzs : z.cells.size = size) (hsz : 0 < size)
  (v : Value) (n : Nat) (xs : List Value) (hown : w.ownsRow base e size v n xs)
  (A : Option Addr) (m c : Nat) (news : List Value) (hl : news.length = m * size) (hnews : ∀ j u, news[j]? = some u → ∃ ad, A = some ad ∧ w.cell? (ad.add j) = some u) (h1 : ∀ u ∈ news, u.oneCell' = true)
  (h63 : n + m ≤ maxLen) (hfit : Grows n m bytes) (hbase : base ≤ w.heap.size) :
  ∃ v' w', (Builtin.append_ #[t, t] ty #[v, .slice A m c]).run P w = .ok v' w' ∧ w'.ownsRow base e size v' (n + m) (xs ++ news) ∧ w.grownBy w' v.ownBlock ∧ SameOrNew w v v' := by
 subst hsize
 subst hby
 have hsmall : n + m ≤ 9223372036854775807 := by simp only [maxLen] at h63; omega
 have hlen : (xs ++ news).length = (n + m) * i.size := by rw [List.length_append, hown.1, hl, Nat.add_mul]
 have made : ∀ (old : Nat), old < n + m → ∀ (row : Option Nat),
   (w.drew.alloc (.cells (xs.toArray ++ news.toArray ++ Builtin.zeroCells z.cells (grownCap w (n + m) old e - (n + m))) e)).ownsRow base e i.size
    (.slice (some ⟨w.heap.size, 0, none⟩) (n + m) (grownCap w (n + m) old e)) (n + m) (xs ++ news) ∧
   w.grownBy (w.drew.alloc (.cells (xs.toArray ++ news.toArray ++ Builtin.zeroCells z.cells (grownCap w (n + m) old e - (n + m))) e)) row := by
  intro old ho row
  have hge := grownCap_ge w (n + m) old e
  have hcm : grownCap w (n + m) old e ≤ maxLen := grownCap_le_maxLen w (n + m) old e h63
  refine ⟨⟨hlen, .inr ⟨w.heap.size, _, _, rfl, hbase, heap_alloc_new w.drew _, hge, hcm, ?_, ?_⟩⟩, ⟨rfl, rfl, rfl, by simp, fun k hk _ => Below.heap_alloc w.drew _ k hk⟩⟩
  ·simp only [Array.size_append, List.size_toArray, size_zeroCells, hzs, hown.1, hl, ← Nat.add_mul]
   congr 1
   omega
  ·simp only [Array.toList_append, List.append_assoc]
   rw [← List.append_assoc, ← hlen]
   exact List.take_left
 have none_ : m = 0 → (Builtin.append_ #[t, t] ty #[v, .slice A m c]).run P w = .ok v w ∧ news = [] := by
  intro hm
  subst hm
  refine ⟨?_, List.eq_nil_of_length_eq_zero (by simpa using hl)⟩
  rcases own_shape hown with ⟨rfl, _, _⟩ | ⟨g, cap, rfl, hnc, _⟩ <;> cases A <;>
   simp [Builtin.append_, run_underlying ht, sizeOf, typeInfo, hi, Builtin.lenOf, Builtin.firstCells, loadCells, loadCellsFrom, storeCells, *]
 by_cases hm : m = 0
 ·obtain ⟨hr, rfl⟩ := none_ hm
  subst hm
  exact ⟨v, w, hr, by simpa using hown, grown_refl w _, SameOrNew.refl w v⟩
 have hn0 : 0 < news.length := by rw [hl]; exact Nat.mul_pos (by omega) hsz
 obtain ⟨a, rfl, _⟩ := hnews 0 news[0] (by simp)
 have hnews : ∀ j u, news[j]? = some u → w.cell? (a.add j) = some u := fun j u hj => by
  obtain ⟨ad, he, hc⟩ := hnews j u hj
  injection he with he
  rw [he]; exact hc
 rcases hown.2 with ⟨rfl, rfl⟩ | ⟨g, cap, cur, rfl, hbg, hg, hnc, hcm, hcs, htake⟩
 ·have hx : xs = [] := List.eq_nil_of_length_eq_zero (by simpa using hown.1)
  subst hx
  have h48 := hfit 0 (Nat.le_refl _) (by omega)
  rw [Nat.zero_add, nextslicecap_zero (by omega)] at h48
  have hr := run_append_nil (P := P) w t ty e i z ht hi hz a m c news hl hnews (by omega) (by omega) h48
  have hgr := made 0 (by omega) (Value.ownBlock (.slice none 0 0))
  simp only [Nat.zero_add, List.nil_append, Array.empty_append] at hgr ⊢
  exact ⟨_, _, hr, hgr.1, hgr.2, fun k hk => .inr ((hgr.1).lt k hk |>.1 |> fun _ => by simp [Value.ownBlock] at hk; omega)⟩
 ·by_cases hroom : n + m ≤ cap
  ·obtain ⟨w', hr, ho, hgr⟩ := run_append_fits (P := P) w base t ty e i i.size ht hi rfl g n cap xs hown a m c news hl hnews h1 hroom
   exact ⟨_, w', hr, ho, hgr, fun k hk => .inl hk⟩
  ·have holds : ∀ j u, xs[j]? = some u → w.cell? ((⟨g, 0, none⟩ : Addr).add j) = some u := hown.cells (g := g) rfl
   have hr := run_append_grow (P := P) w t ty e i z ht hi hz ⟨g, 0, none⟩ n cap xs hown.1 holds a m c news hl hnews (by omega) (by omega) (hfit cap hnc (by omega))
   have hgr := made cap (by omega) (Value.ownBlock (.slice (some ⟨g, 0, none⟩) n cap))
   exact ⟨_, _, hr, hgr.1, hgr.2, fun k hk => .inr (by simp [Value.ownBlock] at hk; omega)⟩
theorem step_append_own5 {ops : Array Oper} {o : Oper} {a : Act} {K : Act → World → Prop} {Q : Exit → Act → World → Prop} {E : Prop}
  (hw : Region.wanted o (yielded ops a.tmps) = true) (s x : Operand) (t : TypeId) (hop : o.op = Op.call { callee := Callee.builtin Builtin.append, args := #[s, x], argTypes := #[t, t] })
  (base : Nat) (e : TypeId) (i : TypeInfo) (z : Value) (size bytes : Nat) (h1 : P.underlying t = some (.slice e)) (h2 : P.info? e = some i) (h3 : i.zero = some z) (h4 : i.size = size) (h5 : i.bytes = bytes) (h6 : z.cells.size = size) (h7 : 0 < size)
  (v : Value) (n : Nat) (xs : List Value) (hs : a.eval s = v) (hown : w.ownsRow base e size v n xs)
  (ad : Addr) (m c : Nat) (news : List Value) (hx : a.eval x = .slice (some ad) m c) (hn : news.length = m * size) (hc : ∀ j u, news[j]? = some u → w.cell? (ad.add j) = some u) (h1c : ∀ u ∈ news, u.oneCell' = true)
  (b1 : n + m ≤ maxLen) (b2 : Grows n m bytes) (b3 : base ≤ w.heap.size)
  (hK : ∀ v' w', w'.ownsRow base e size v' (n + m) (xs ++ news) → w.grownBy w' v.ownBlock → SameOrNew w v v' → K (a.put o.dst v') w') :
  if Region.wanted o (yielded ops a.tmps) = true then Oper.wp P o a w K Q else E := by
 rw [if_pos hw]
 obtain ⟨v', w', hr, r1, r2, r3⟩ := run_append_own5 (P := P) w base t o.type e i z size bytes h1 h2 h3 h4 h5 h6 h7 v n xs hown (some ad) m c news hn (fun j u hj => ⟨ad, rfl, hc j u hj⟩) h1c b1 b2 b3
 unfold Oper.wp
 simp [execOp, hop, resolve, invoke, builtin, hs, hx, hr, Result.andThen]
 exact hK _ _ r1 r2 r3
theorem wpList_append_own5 {ops : Array Oper} {rest : List Oper} {o : Oper} {a : Act} {Q : Exit → Act → World → Prop} (hgd : o.guard = none) (s x : Operand) (t : TypeId)
  (ho : o.op = .call { callee := .builtin .append, args := #[s, x], argTypes := #[t, t] })
  (base : Nat) (e : TypeId) (i : TypeInfo) (z : Value) (size bytes : Nat) (ht : P.underlying t = some (.slice e)) (hi : P.info? e = some i) (hz : i.zero = some z)
  (hsize : i.size = size) (hby : i.bytes = bytes) (hzs : z.cells.size = size) (hsz : 0 < size)
  (v : Value) (n : Nat) (xs : List Value) (hs : a.eval s = v) (hown : w.ownsRow base e size v n xs)
  (A : Option Addr) (m c : Nat) (news : List Value) (hx : a.eval x = .slice A m c) (hl : news.length = m * size) (hnews : ∀ j u, news[j]? = some u → ∃ ad, A = some ad ∧ w.cell? (ad.add j) = some u) (h1 : ∀ u ∈ news, u.oneCell' = true)
  (h63 : n + m ≤ maxLen) (hfit : Grows n m bytes) (hbase : base ≤ w.heap.size)
  (h : ∀ v' w', w'.ownsRow base e size v' (n + m) (xs ++ news) → w.grownBy w' v.ownBlock → SameOrNew w v v' → wpList P ops Q rest (a.put o.dst v') w') : wpList P ops Q (o :: rest) a w := by
 refine wpList_plain hgd fun K hK => ?_
 obtain ⟨v', w', hr, h2, h3, h4⟩ := run_append_own5 (P := P) w base t o.type e i z size bytes ht hi hz hsize hby hzs hsz v n xs hown A m c news hl hnews h1 h63 hfit hbase
 unfold Oper.wp execOp
 simp only [ho, resolve, invoke, builtin, Sem.run_bind, Sem.run_pure, Result.andThen_ok, List.map_toArray, List.map_cons, List.map_nil, hs, hx, hr]
 exact hK _ _ (h v' w' h2 h3 h4)
end
theorem flat_inv {α : Type} (f : α → List Value) (n : Nat) (hf : ∀ x, (f x).length = n) : ∀ (l : List α) (j : Nat) (u : Value), (l.flatMap f)[j]? = some u → ∃ (i r : Nat) (q : α), l[i]? = some q ∧ r < n ∧ j = i * n + r ∧ (f q)[r]? = some u
 | [], j, u, h => by simp at h
 | s :: t, j, u, h => by
  rw [List.flatMap_cons] at h
  by_cases hj : j < n
  ·rw [List.getElem?_append_left (by rw [hf]; exact hj)] at h
   exact ⟨0, j, s, rfl, hj, by omega, h⟩
  ·rw [List.getElem?_append_right (by rw [hf]; omega), hf] at h
   obtain ⟨i, r, q, h1, h2, h3, h4⟩ := flat_inv f n hf t (j - n) u h
   exact ⟨i + 1, r, q, by simpa using h1, h2, by rw [Nat.add_mul]; omega, h4⟩
theorem flat_at {α : Type} (f : α → List Value) (n : Nat) (hf : ∀ x, (f x).length = n) : ∀ (l : List α) (i r : Nat) (q : α), l[i]? = some q → r < n → (l.flatMap f)[i * n + r]? = (f q)[r]?
 | [], i, r, q, h, _ => by simp at h
 | s :: t, 0, r, q, h, hr => by
  simp only [List.getElem?_cons_zero, Option.some.injEq] at h
  subst h
  rw [List.flatMap_cons, List.getElem?_append_left (by rw [hf]; omega)]
  congr 1; omega
 | s :: t, i + 1, r, q, h, hr => by
  rw [List.flatMap_cons, List.getElem?_append_right (by rw [hf, Nat.add_mul]; omega), hf, show (i + 1) * n + r - n = i * n + r by rw [Nat.add_mul]; omega]
  exact flat_at f n hf t i r q (by simpa using h) hr
theorem flat_len {α : Type} (f : α → List Value) (n : Nat) (hf : ∀ x, (f x).length = n) : ∀ (l : List α), (l.flatMap f).length = l.length * n
 | [] => by simp
 | s :: t => by rw [List.flatMap_cons, List.length_append, hf, flat_len f n hf t, List.length_cons, Nat.add_mul]; omega
theorem list3 {α : Type} {l : List α} (h : l.length = 3) : ∃ a b c, l = [a, b, c] := by
 match l, h with
 | [a, b, c], _ => exact ⟨a, b, c, rfl⟩
theorem cells_len (p : P) : (Sc.cells p).length = 3 := rfl
theorem Cl.pat {w : World} {B : Nat} {A : Option Addr} {l : List P} (h : Cl w B A (l.flatMap Sc.cells)) {i : Nat} {p : P} (hp : l[i]? = some p) :
  ∃ b o, A = some ⟨b, o, none⟩ ∧ b < B ∧ w.cell? ⟨b, o + i * 3, none⟩ = some (.string (str p.T)) ∧ w.cell? ⟨b, o + i * 3 + 1, none⟩ = some (.string (str p.S)) ∧ w.cell? ⟨b, o + i * 3 + 2, none⟩ = some (.bool p.m) := by
 have hat := flat_at Sc.cells 3 cells_len l i
 obtain ⟨b, o, h1, h2, h3⟩ := h.ex (fun e => by
  have := hat 0 p hp (by omega)
  rw [e] at this
  simp [Sc.cells] at this)
 refine ⟨b, o, h1, h2, ?_, ?_, ?_⟩
 ·have := h3 (i * 3 + 0) _ (hat 0 p hp (by omega)); simpa [Nat.add_assoc] using this
 ·have := h3 (i * 3 + 1) _ (hat 1 p hp (by omega)); simpa [Nat.add_assoc] using this
 ·have := h3 (i * 3 + 2) _ (hat 2 p hp (by omega)); simpa [Nat.add_assoc] using this
section
variable {H : Type} {enc : TypeId × Value → H} {W : World} {base : Nat} {v : Value} {d : DataW H} {p : List MemPlace}
def Fits (d : DataW H) (t : TypeId) : Prop := ∀ n ∈ d.weights Try.prog t, n ≤ reachBytes
theorem all_mem {e : TypeId} : ∀ {l : List (DataW H)} {d : DataW H}, d ∈ l → ∀ n ∈ d.weights Try.prog e, n ∈ DataW.weightsAll Try.prog e l
 | [], d, h, _, _ => by simp at h
 | a :: r, d, h, n, hn => by
  rw [DataW.weightsAll, List.mem_append]
  rcases List.mem_cons.1 h with h1 | h1
  ·subst h1; exact .inl hn
  ·exact .inr (all_mem h1 n hn)
theorem fits_agg {t : TypeId} {fs : Array Field} {ds : List (DataW H)} (ht : Try.prog.underlying t = some (.struct fs)) (hf : Fits (.agg ds) t) {j : Nat} {t' : TypeId} {d : DataW H} (h1 : (fs.toList.map (·.type))[j]? = some t') (h2 : ds[j]? = some d) : Fits d t' := fun n hn => by
 refine hf n ?_
 rw [DataW.weights, ht]
 exact DataW.weights_mem_each h1 h2 n hn
theorem str_read {k : Nat} {cs : List Value} {x : DataW H × List MemPlace} (h : DataW.trod enc Try.prog W 0 (fun _ => true) true k 9 cs = some x) (hf : Fits x.1 9) : ∃ n : List UInt8, cs = [.string (str n)] ∧ n.length ≤ reachBytes := by
 obtain ⟨s, rfl, rfl, _⟩ := DataW.trod_string Try.underlying9 h
 refine ⟨bl s, by rw [str_bl], ?_⟩
 exact hf _ (by simp [DataW.weights, bl])
theorem cs1 : Try.prog.cellsOf 9 = 1 := by kernel_rfl
theorem cb1 : Try.prog.cellsOf 4 = 1 := by kernel_rfl
theorem cp3 : Try.prog.cellsOf 48 = 3 := by kernel_rfl
theorem slice_read {α : Type} (a0 : α) {t e : TypeId} {K : Nat} (f : α → List Value) (Q : α → Prop) (ht : Try.prog.underlying t = some (.slice e)) (ke : Try.prog.cellsOf e = K) (hK : 0 < K) (hlen : ∀ a, (f a).length = K)
  (hel : ∀ (k : Nat) (cs : List Value) (x : DataW H × List MemPlace), DataW.trod enc Try.prog W 0 (fun _ => true) true k e cs = some x → Fits x.1 e → ∃ a, cs = f a ∧ Q a)
  {k : Nat} {cs : List Value} {x : DataW H × List MemPlace} (h : DataW.trod enc Try.prog W 0 (fun _ => true) true k t cs = some x) (hf : Fits x.1 t) :
  ∃ A c, ∃ l : List α, cs = [.slice A l.length c] ∧ Cl W W.heap.size A (l.flatMap f) ∧ (∀ a ∈ l, Q a) ∧ l.length * Try.prog.bytesOf e ≤ reachBytes ∧ (A = none → c = 0) := by
 rcases Go.Deep.open_slice ht h with ⟨rfl, _⟩ | ⟨a, len, cap, m, n, D, Pl, rfl, hb, hl, hm, hmm, rfl, hx⟩
 ·exact ⟨none, 0, [], rfl, Cl.nil _ _ _, by simp, by simp, fun _ => rfl⟩
 ·have hlm : m = cap := by simpa using hmm
  have hfi : ∀ i, i < len → Fits (D i) e := fun i hi n hn => hf n (by
   rw [DataW.weights, ht]
   refine List.mem_cons_of_mem _ (List.mem_append_left _ (all_mem ?_ n hn))
   exact List.mem_map.2 ⟨i, List.mem_range.2 hi, rfl⟩)
  have hlr : len * Try.prog.bytesOf e ≤ reachBytes := by
   have h1 := hf ((((List.range len).map D).length + ((List.range (m - len)).map fun j => D (len + j)).length) * Try.prog.bytesOf e) (by rw [DataW.weights, ht]; exact List.mem_cons_self)
   rw [List.length_map, List.length_range] at h1
   exact Nat.le_trans (Nat.mul_le_mul_right _ (Nat.le_add_right _ _)) h1
  have hread : ∀ i, i < len → ∃ q : α, Q q ∧ ∀ j, j < K → W.cell? (a.add (i * K + j)) = (f q)[j]? := by
   intro i hi
   obtain ⟨cs', h1, h2⟩ := hx i (by omega)
   rw [ke] at h1
   obtain ⟨_, hlen', hcell⟩ := World.cells?_some h1
   obtain ⟨q, rfl, hq⟩ := hel _ _ _ h2 (hfi i hi)
   refine ⟨q, hq, fun j hj => ?_⟩
   have := hcell j hj
   rwa [Go.Deep.add_add] at this
  haveI : Inhabited α := ⟨a0⟩
  obtain ⟨Z, hZ⟩ := Go.Deep.choose_lt (α := α) hread
  refine ⟨some a, cap, (List.range len).map Z, by simp, ⟨fun hne => ?_⟩, fun q hq => ?_, by simpa using hlr, fun h => by cases h⟩
  ·have h0 : 0 < len := by
    rcases Nat.eq_zero_or_pos len with h | h
    ·subst h; simp at hne
    ·exact h
   have g0 := (hZ 0 h0).2 0 hK
   have hl0 : 0 < (f (Z 0)).length := by rw [hlen]; exact hK
   rw [List.getElem?_eq_getElem hl0] at g0
   obtain ⟨ab, ao, rfl, hlt⟩ := at_zero (a := a) (by simpa [Addr.add] using g0)
   refine ⟨ab, ao, rfl, hlt, fun j u hu => ?_⟩
   obtain ⟨i, r, q, h1, h2, rfl, h4⟩ := flat_inv f K hlen _ j u hu
   rw [List.getElem?_map] at h1
   cases hi : (List.range len)[i]? with
   | none => rw [hi] at h1; simp at h1
   | some i' =>
    rw [hi] at h1
    obtain ⟨hlt2, h5⟩ := List.getElem?_eq_some_iff.1 hi
    simp only [List.getElem_range] at h5
    subst h5
    simp only [Option.map_some, Option.some.injEq] at h1
    subst h1
    have g := (hZ i (by simpa using hlt2)).2 r h2
    rw [Go.WideShapes.add_plain, h4] at g
    exact g
  ·obtain ⟨i, hi, rfl⟩ := List.mem_map.1 hq
   exact (hZ i (List.mem_range.1 hi)).1
def Sz (p : P) : Prop := p.T.length ≤ reachBytes ∧ p.S.length ≤ reachBytes
theorem pat_read {k : Nat} {cs : List Value} {x : DataW H × List MemPlace} (h : DataW.trod enc Try.prog W 0 (fun _ => true) true k 48 cs = some x) (hf : Fits x.1 48) :
  ∃ p : P, cs = Sc.cells p ∧ Sz p := by
 obtain ⟨y0, y1, y2, n, rfl, hl, h0, h1, h2⟩ := Go.Deep.trod_struct3 Try.underlying48 h
 rw [cp3] at hl
 obtain ⟨a, b, c, rfl⟩ := list3 hl
 have h0 : DataW.trod enc Try.prog W 0 (fun _ => true) true n 9 (([a, b, c].drop 0).take (Try.prog.cellsOf 9)) = some y0 := h0
 have h1 : DataW.trod enc Try.prog W 0 (fun _ => true) true n 9 (([a, b, c].drop 1).take (Try.prog.cellsOf 9)) = some y1 := h1
 have h2 : DataW.trod enc Try.prog W 0 (fun _ => true) true n 4 (([a, b, c].drop 2).take (Try.prog.cellsOf 4)) = some y2 := h2
 rw [cs1] at h0 h1
 rw [cb1] at h2
 obtain ⟨T, e0, hT⟩ := str_read h0 (fits_agg Try.underlying48 hf (j := 0) rfl rfl)
 obtain ⟨S, e1, hS⟩ := str_read h1 (fits_agg Try.underlying48 hf (j := 1) rfl rfl)
 obtain ⟨m, e2, _⟩ := DataW.trod_bool Try.underlying4 h2
 simp at e0 e1 e2
 subst e0 e1 e2
 exact ⟨⟨T, S, m⟩, rfl, hT, hS⟩
structure Pats (w : World) (B : Nat) (v : Value) (l : List P) : Prop where
 ex : ∃ A c, v = .slice A l.length c ∧ Cl w B A (l.flatMap Sc.cells) ∧ (A = none → c = 0)
 sz : ∀ p ∈ l, Sz p
 len : l.length * 40 ≤ reachBytes
theorem Pats.below {w w' : World} {B : Nat} {v : Value} {l : List P} (h : Pats w B v l) (hb : Below B w w') : Pats w' B v l := by
 obtain ⟨A, c, h1, h2, h3⟩ := h.ex
 exact ⟨⟨A, c, h1, h2.below hb, h3⟩, h.sz, h.len⟩
theorem bp40 : Try.prog.bytesOf 48 = 40 := by kernel_rfl
theorem open_pats (hv : Value.okWide Try.prog W .any base 22 v) (h : DataW.Trod enc Try.prog W 0 (fun _ => true) true 22 v d p) (hf : Fits d 22) : ∃ l, Pats W W.heap.size v l := by
 obtain ⟨A0, n0, c0, rfl⟩ := okWide_slice Try.underlying22 hv
 obtain ⟨k, hk⟩ := h
 obtain ⟨A, c, l, e, h1, h2, h3, h4⟩ := slice_read (⟨[], [], false⟩ : P) Sc.cells Sz Try.underlying22 cp3 (by omega) cells_len (fun k cs x h hf => pat_read h hf) hk hf
 simp [Value.cells] at e
 obtain ⟨rfl, rfl, rfl⟩ := e
 rw [bp40] at h3
 exact ⟨l, ⟨A0, c0, rfl, h1, h4⟩, h2, h3⟩
end
end Go.Proofs.Ytddjmhhdpfebkaa
