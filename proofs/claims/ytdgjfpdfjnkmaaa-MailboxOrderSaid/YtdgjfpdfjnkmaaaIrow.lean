/-
  Rows of ints that nobody writes any more ('IRow'); append from whatever source; tronageref01's Ints.
-/
import Derived.Test.YtdgjfpdfjnkmaaaOwn
import Derived.Test.YtdgjfpdfjnkmaaaOps
import Derived.WalkLawsBesides
import Derived.BigQuiet
import Derived.Deep.QuietTactic
import Derived.Lib.Hide
namespace Go.Proofs.Ytdgjfpdfjnkmaaa
open Go.RowKit
set_option linter.unusedVariables false

theorem Keeps.nil_of_below {w w' : World} (h : Below w.heap.size w w') : Keeps [] w w' := ⟨h.os, h.tape, h.output, h.size, fun k hk _ => h.block k hk⟩
theorem Keeps.of_grown {w w' : World} {row : Option Nat} (h : w.grownBy w' row) : Keeps row.toList w w' := (Keeps.refl _ w).grown h (fun k hk => .inl (by simp [hk]))

section
variable {P : Program} (w : World)
/-- Nothing is appended. -/
theorem run_append_none (base : Nat) (t ty e : TypeId) (i : TypeInfo) (size : Nat) (ht : P.underlying t = some (.slice e)) (hi : P.info? e = some i)
    (v : Value) (n : Nat) (xs : List Value) (hown : w.ownsRow base e size v n xs) (c : Nat) : (Builtin.append_ #[t, t] ty #[v, .slice none 0 c]).run P w = .ok v w := by
  rcases own_shape hown with ⟨rfl, _, _⟩ | ⟨g, cap, rfl, hnc, _⟩
  · simp [Builtin.append_, run_underlying ht, sizeOf, typeInfo, hi, Builtin.lenOf, Builtin.firstCells]
  · simp [Builtin.append_, run_underlying ht, sizeOf, typeInfo, hi, Builtin.lenOf, Builtin.firstCells, hnc, storeCells]

/-- What is appended lies at A, if there is any. -/
def Lies (w : World) (A : Option Addr) (news : List Value) : Prop := ∀ j u, news[j]? = some u → ∃ ad, A = some ad ∧ w.cell? (ad.add j) = some u

theorem run_append_own3 (base : Nat) (t ty e : TypeId) (i : TypeInfo) (z : Value) (size bytes : Nat) (ht : P.underlying t = some (.slice e)) (hi : P.info? e = some i) (hz : i.zero = some z)
    (hsize : i.size = size) (hby : i.bytes = bytes) (hzs : z.cells.size = size) (hsz : 0 < size)
    (v : Value) (n : Nat) (xs : List Value) (hown : w.ownsRow base e size v n xs)
    (A : Option Addr) (m c : Nat) (news : List Value) (hl : news.length = m * size) (hnews : Lies w A news) (h1 : ∀ u ∈ news, u.oneCell' = true)
    (h63 : n + m ≤ maxLen) (hbytes : (n + m) * bytes ≤ 140737488355328) (hbase : base ≤ w.heap.size) :
    ∃ v' w', (Builtin.append_ #[t, t] ty #[v, .slice A m c]).run P w = .ok v' w' ∧ w'.ownsRow base e size v' (n + m) (xs ++ news) ∧ w.grownBy w' v.ownBlock ∧ SameOrNew w v v' := by
  cases A with
  | some ad =>
    refine run_append_own2 (P := P) w base t ty e i z size bytes ht hi hz hsize hby hzs hsz v n xs hown ad m c news hl (fun j u hj => ?_) h1 h63 hbytes hbase
    obtain ⟨ad', he, hc⟩ := hnews j u hj
    injection he with he
    rw [he]; exact hc
  | none =>
    have hn : news = [] := by
      cases news with
      | nil => rfl
      | cons u l => obtain ⟨_, he, _⟩ := hnews 0 u rfl; cases he
    subst hn
    have hm : m = 0 := by
      rcases Nat.eq_zero_or_pos m with h | h
      · exact h
      · have := Nat.mul_pos h hsz; simp at hl; omega
    subst hm
    exact ⟨v, w, run_append_none w base t ty e i size ht hi v n xs hown c, by simpa using hown, grown_refl w _, SameOrNew.refl w v⟩

theorem wpList_append_own3 {ops : Array Oper} {rest : List Oper} {o : Oper} {a : Act} {Q : Exit → Act → World → Prop} (hgd : o.guard = none) (s x : Operand) (t : TypeId)
    (ho : o.op = .call { callee := .builtin .append, args := #[s, x], argTypes := #[t, t] })
    (base : Nat) (e : TypeId) (i : TypeInfo) (z : Value) (size bytes : Nat) (ht : P.underlying t = some (.slice e)) (hi : P.info? e = some i) (hz : i.zero = some z)
    (hsize : i.size = size) (hby : i.bytes = bytes) (hzs : z.cells.size = size) (hsz : 0 < size)
    (v : Value) (n : Nat) (xs : List Value) (hs : a.eval s = v) (hown : w.ownsRow base e size v n xs)
    (A : Option Addr) (m c : Nat) (news : List Value) (hx : a.eval x = .slice A m c) (hl : news.length = m * size) (hnews : Lies w A news) (h1 : ∀ u ∈ news, u.oneCell' = true)
    (h63 : n + m ≤ maxLen) (hbytes : (n + m) * bytes ≤ 140737488355328) (hbase : base ≤ w.heap.size)
    (h : ∀ v' w', w'.ownsRow base e size v' (n + m) (xs ++ news) → w.grownBy w' v.ownBlock → SameOrNew w v v' → wpList P ops Q rest (a.put o.dst v') w') : wpList P ops Q (o :: rest) a w := by
  refine wpList_plain hgd fun K hK => ?_
  obtain ⟨v', w', hr, h2, h3, h4⟩ := run_append_own3 (P := P) w base t o.type e i z size bytes ht hi hz hsize hby hzs hsz v n xs hown A m c news hl hnews h1 h63 hbytes hbase
  unfold Oper.wp execOp
  simp only [ho, resolve, invoke, builtin, Sem.run_bind, Sem.run_pure, Result.andThen_ok, List.map_toArray, List.map_cons, List.map_nil, hs, hx, hr]
  exact hK _ _ (h v' w' h2 h3 h4)

/-- The same at a guarded operation that is wanted. -/
theorem wpList_append_own3g {ops : Array Oper} {rest : List Oper} {o : Oper} {a : Act} {Q : Exit → Act → World → Prop} (hw : Region.wanted o (yielded ops a.tmps) = true) (s x : Operand) (t : TypeId)
    (ho : o.op = .call { callee := .builtin .append, args := #[s, x], argTypes := #[t, t] })
    (base : Nat) (e : TypeId) (i : TypeInfo) (z : Value) (size bytes : Nat) (ht : P.underlying t = some (.slice e)) (hi : P.info? e = some i) (hz : i.zero = some z)
    (hsize : i.size = size) (hby : i.bytes = bytes) (hzs : z.cells.size = size) (hsz : 0 < size)
    (v : Value) (n : Nat) (xs : List Value) (hs : a.eval s = v) (hown : w.ownsRow base e size v n xs)
    (A : Option Addr) (m c : Nat) (news : List Value) (hx : a.eval x = .slice A m c) (hl : news.length = m * size) (hnews : Lies w A news) (h1 : ∀ u ∈ news, u.oneCell' = true)
    (h63 : n + m ≤ maxLen) (hbytes : (n + m) * bytes ≤ 140737488355328) (hbase : base ≤ w.heap.size)
    (h : ∀ v' w', w'.ownsRow base e size v' (n + m) (xs ++ news) → w.grownBy w' v.ownBlock → SameOrNew w v v' → wpList P ops Q rest (a.put o.dst v') w') : wpList P ops Q (o :: rest) a w := by
  refine wpList_step fun K hK => ?_
  rw [if_pos hw]
  obtain ⟨v', w', hr, h2, h3, h4⟩ := run_append_own3 (P := P) w base t o.type e i z size bytes ht hi hz hsize hby hzs hsz v n xs hown A m c news hl hnews h1 h63 hbytes hbase
  unfold Oper.wp execOp
  simp only [ho, resolve, invoke, builtin, Sem.run_bind, Sem.run_pure, Result.andThen_ok, List.map_toArray, List.map_cons, List.map_nil, hs, hx, hr]
  exact hK _ _ (h v' w' h2 h3 h4)

/-- A row of one's own, empty, just made by a composite literal. -/
theorem own_empty (base : Nat) (e : TypeId) (hb : base ≤ w.heap.size) : (w.alloc (.cells #[] e)).ownsRow base e 1 (.slice (some ⟨w.heap.size, 0, none⟩) 0 0) 0 [] :=
  ⟨rfl, .inr ⟨w.heap.size, 0, #[], rfl, hb, heap_alloc_new w _, by omega, by unfold maxLen; omega, by simp, by simp⟩⟩
end

theorem infoInts : (Try.prog.info? 3).map (fun i => (i.zero, i.size, i.bytes)) = some (some (.int .i64 0), 1, 8) := by kernel_rfl

/-- The call answers whether p is so. -/
def Tells (e : Ending) (p : Prop) : Prop := ∃ r, e = .returned (.bool r) ∧ (r = true ↔ p)
theorem Tells.yes {e : Ending} {p : Prop} (he : e = .returned (.bool true)) (hp : p) : Tells e p := ⟨true, he, ⟨fun _ => hp, fun _ => rfl⟩⟩
theorem Tells.no {e : Ending} {p : Prop} (he : e = .returned (.bool false)) (hp : ¬ p) : Tells e p := ⟨false, he, ⟨fun h => (by cases h), fun h => absurd h hp⟩⟩
theorem Tells.iff {e : Ending} {p q : Prop} (h : Tells e p) (hi : p ↔ q) : Tells e q := by obtain ⟨r, h1, h2⟩ := h; exact ⟨r, h1, h2.trans hi⟩
theorem Tells.true_ {e : Ending} {p : Prop} (h : Tells e p) (hp : p) : e = .returned (.bool true) := by
  obtain ⟨r, rfl, h2⟩ := h
  rw [h2.2 hp]

def vals (l : List Int) : List Value := l.map (.int .i64 ·)
theorem vals_length (l : List Int) : (vals l).length = l.length := by simp [vals]
theorem vals_snoc (l : List Int) (x : Int) : vals (l ++ [x]) = vals l ++ [.int .i64 x] := by simp [vals]
theorem vals_append (l m : List Int) : vals (l ++ m) = vals l ++ vals m := by simp [vals]
theorem vals_one (l : List Int) : ∀ u ∈ vals l, u.oneCell' = true := by
  intro u hu
  simp only [vals, List.mem_map] at hu
  obtain ⟨x, _, rfl⟩ := hu
  rfl
def Small (l : List Int) : Prop := ∀ x ∈ l, -9223372036854775808 ≤ x ∧ x ≤ 9223372036854775807
theorem Small.nil : Small [] := fun x h => by cases h
theorem Small.append {l m : List Int} (h : Small l) (k : Small m) : Small (l ++ m) := fun x hx => by
  rcases List.mem_append.1 hx with h1 | h1
  · exact h x h1
  · exact k x h1
theorem Small.one {x : Int} (h : -9223372036854775808 ≤ x ∧ x ≤ 9223372036854775807) : Small [x] := fun y hy => by simp at hy; subst hy; exact h
theorem Small.drop {l : List Int} (h : Small l) (k : Nat) : Small (l.drop k) := fun x hx => h x (List.mem_of_mem_drop hx)
theorem Small.take {l : List Int} (h : Small l) (k : Nat) : Small (l.take k) := fun x hx => h x (List.mem_of_mem_take hx)

/-- The ints l lie at A: in a block of ints. -/
structure IAt (w : World) (A : Option Addr) (l : List Int) : Prop where
  small : Small l
  len : l.length ≤ 9223372036854775807
  ex : l ≠ [] → ∃ b o cs, A = some ⟨b, o, none⟩ ∧ At w b 3 cs ∧ ∀ i x, l[i]? = some x → cs[o + i]? = some (.int .i64 x)

section
variable {w w' a : World} {A : Option Addr} {l : List Int} {S : List Nat}
theorem IAt.nil (w : World) (A : Option Addr) : IAt w A [] := ⟨Small.nil, by simp, fun h => absurd rfl h⟩
theorem IAt.cell (h : IAt w A l) {i : Nat} (hi : i < l.length) : ∃ b o, A = some ⟨b, o, none⟩ ∧ b < w.heap.size ∧ w.cell? ⟨b, o + i, none⟩ = some (.int .i64 (l.getD i 0)) := by
  obtain ⟨b, o, cs, rfl, hb, hc⟩ := h.ex (fun e => by simp [e] at hi)
  exact ⟨b, o, rfl, hb.lt, by rw [hb.cell]; exact hc i _ (by simp [List.getD, hi])⟩
theorem IAt.keeps (h : IAt w A l) (hk : Keeps S w w') (hS : ∀ b ∈ S, ∀ cs, ¬ At w b 3 cs) : IAt w' A l :=
  ⟨h.small, h.len, fun hn => by
    obtain ⟨b, o, cs, hA, hb, hc⟩ := h.ex hn
    exact ⟨b, o, cs, hA, hb.keeps hk (fun hm => hS b hm cs hb), hc⟩⟩
theorem IAt.drewN (h : IAt w A l) (k : Nat) : IAt (w.drewN k) A l := ⟨h.small, h.len, h.ex⟩
theorem IAt.drew (h : IAt w A l) : IAt w.drew A l := ⟨h.small, h.len, h.ex⟩
theorem IAt.alloc (h : IAt w A l) (o : Obj) : IAt (w.alloc o) A l := h.keeps (S := []) ((Keeps.refl _ w).alloc o) (by simp)
theorem IAt.below (h : IAt w A l) (hb : Below w.heap.size w w') : IAt w' A l := h.keeps (Keeps.nil_of_below hb) (by simp)
theorem IAt.nums (h : IAt w A l) : Nums w w.heap.size A l.length (fun i => l.getD i 0) :=
  ⟨fun i hi => by obtain ⟨b, o, hA, hb, hc⟩ := h.cell hi; exact ⟨b, o, hA, hb, hc⟩, fun i hi => h.small _ (by simp [List.getD, hi]), h.len⟩
theorem IAt.lies (h : IAt w A l) : Lies w A (vals l) := by
  intro j u hj
  simp only [vals, List.getElem?_map, Option.map_eq_some_iff] at hj
  obtain ⟨x, hx, rfl⟩ := hj
  obtain ⟨b, o, cs, rfl, hb, hc⟩ := h.ex (fun e => by simp [e] at hx)
  exact ⟨_, rfl, by rw [Go.WideShapes.add_plain, hb.cell]; exact hc j x hx⟩
theorem IAt.own {B n : Nat} {v : Value} (h : w.ownsRow B 3 1 v n (vals l)) (hs : Small l) : ∃ A c, v = .slice A l.length c ∧ l.length ≤ c ∧ IAt w A l ∧ n = l.length := by
  have hl : n = l.length := by have := h.1; simpa [vals_length] using this.symm
  subst hl
  rcases h.2 with ⟨rfl, h0⟩ | ⟨g, cap, cur, rfl, hb, hg, hnc, hcm, hcs, ht⟩
  · have : l = [] := List.eq_nil_of_length_eq_zero (by simpa using h0)
    subst this
    exact ⟨none, 0, by simp, by simp, IAt.nil _ _, rfl⟩
  · refine ⟨_, cap, rfl, hnc, ⟨hs, by have := maxLen_le hcm; omega, fun _ => ⟨g, 0, cur, rfl, hg, fun i x hx => ?_⟩⟩, rfl⟩
    have h1 : (vals l)[i]? = some (.int .i64 x) := by simp [vals, hx]
    rw [← ht, List.getElem?_take] at h1
    split at h1
    · rw [Nat.zero_add, ← Array.getElem?_toList]; exact h1
    · cases h1
theorem IAt.drop (h : IAt w A l) {n c : Nat} (k : Nat) (hk : k ≤ l.length) : IAt w (if c = k then A else A.map (·.add k)) (l.drop k) ∨ (c = k ∧ k < l.length) := by
  by_cases hc : c = k
  · by_cases hl : k < l.length
    · exact .inr ⟨hc, hl⟩
    · rw [List.drop_eq_nil_of_le (by omega)]; exact .inl (IAt.nil _ _)
  · refine .inl ?_
    rw [if_neg hc]
    refine ⟨h.small.drop k, by have := h.len; simp; omega, fun hn => ?_⟩
    obtain ⟨b, o, cs, rfl, hb, hcs⟩ := h.ex (fun e => hn (by rw [e]; simp))
    refine ⟨b, o + k, cs, ?_, hb, fun i x hx => ?_⟩
    · simp only [Option.map_some, Go.WideShapes.add_plain]
    · rw [Nat.add_assoc]
      exact hcs (k + i) x (by rw [← hx, List.getElem?_drop])
theorem IAt.take (h : IAt w A l) (k : Nat) : IAt w A (l.take k) :=
  ⟨h.small.take k, by have := h.len; simp; omega, fun hn => by
    obtain ⟨b, o, cs, hA, hb, hc⟩ := h.ex (fun e => hn (by rw [e]; simp))
    refine ⟨b, o, cs, hA, hb, fun i x hx => hc i x ?_⟩
    rw [List.getElem?_take] at hx
    split at hx
    · exact hx
    · cases hx⟩
end

theorem IAt.cut {w : World} {A : Option Addr} {l : List Int} (h : IAt w A l) {c : Nat} (k : Nat) (hk : k ≤ l.length) (hc : l.length ≤ c) : IAt w (if c = k then A else A.map (·.add k)) (l.drop k) := by
  rcases h.drop (c := c) (n := 0) k hk with h1 | ⟨h1, h2⟩
  · exact h1
  · omega
theorem IAt.heap {w W : World} {A : Option Addr} {l : List Int} (h : IAt w A l) (e : W.heap = w.heap) : IAt W A l :=
  ⟨h.small, h.len, fun hn => by
    obtain ⟨b, o, cs, hA, hb, hc⟩ := h.ex hn
    exact ⟨b, o, cs, hA, by unfold At at *; rw [e]; exact hb, hc⟩⟩
theorem IAt.of_slice {w : World} {a : Option Addr} {c n B : Nat} {l : List Int} (h : w.ownsRow B 3 1 (.slice a n c) n (vals l)) (hs : Small l) : IAt w a l ∧ n = l.length := by
  obtain ⟨A, c', he, _, hI, hn⟩ := IAt.own h hs
  injection he with h1 h2 h3
  subst h1
  exact ⟨hI, hn⟩
theorem cut_hi (ao : Option Addr) (n k cap : Nat) (hk : k ≤ cap) (w : World) :
    (Instr.slice 34 (.slice ao n cap) none (some (.int .i64 (k : Int))) none).run Try.prog w = .ok (.slice ao k cap) w := by
  have hs : (Go.sizeOf (Try.prog.elem 34)).run Try.prog w = .ok 1 w := by kernel_rfl
  rw [run_slice_h (P := Try.prog) w 34 ao n cap Try.underlying34 .i64 (k : Int) (by omega) (by omega), hs]
  cases ao <;> simp [Result.andThen, sliced, Addr.add]
theorem cut_lo (ao : Option Addr) (n k cap : Nat) (hk : k ≤ n) (w : World) :
    (Instr.slice 34 (.slice ao n cap) (some (.int .i64 (k : Int))) none none).run Try.prog w = .ok (.slice (if cap = k then ao else ao.map (·.add k)) (n - k) (cap - k)) w := by
  have hs : (Go.sizeOf (Try.prog.elem 34)).run Try.prog w = .ok 1 w := by kernel_rfl
  rw [run_slice_l (P := Try.prog) w 34 ao n cap Try.underlying34 .i64 (k : Int) (by omega) (by omega), hs]
  simp [Result.andThen, sliced]

def SameTo (X Y : Nat → Int) (k : Nat) : Prop := ∀ i, i < k → X i = Y i
def SameL (n n' : Nat) (X Y : Nat → Int) : Prop := n = n' ∧ SameTo X Y n

set_option maxHeartbeats 4000000 in
theorem ints_any (A : Option Addr) (n c : Nat) (X : Nat → Int) (A' : Option Addr) (n' c' : Nat) (Y : Nat → Int) (B B' : Nat) (w : World) (O : Nums w B A n X) (O' : Nums w B' A' n' Y) :
    Calls Try.prog 15 #[.slice A n c, .slice A' n' c'] w fun e w' => Tells e (SameL n n' X Y) ∧ ∃ k, w' = w.drewN k := by
  have HO := Lib.hid O
  have HO' := Lib.hid O'
  have hl := O.len
  have hl' := O'.len
  clear O O'
  go_enter Try.func15, Try.ntmps15
  by_cases hn : n = n'
  · subst hn
    go_wp2_with fail
    go_loopw [5] (fun i wr => ∃ k : Nat, k ≤ n ∧ i = .int .i64 (k : Int) ∧ SameTo X Y k ∧ ∃ m, wr = w.drewN m) (fun i _ => n - (intOf i).toNat)
    case atStart => exact ⟨0, by omega, rfl, fun i hi => by omega, 0, rfl⟩
    case round =>
      obtain ⟨k, hk, rfl, hsame, m, rfl⟩ := hrel
      have HS := Lib.hid hsame
      clear hsame
      by_cases hlt : k < n
      · obtain ⟨b, o, rfl, _, c0⟩ := HO.out.each k hlt
        obtain ⟨b', o', rfl, _, c1⟩ := HO'.out.each k hlt
        have hltI : (k : Int) < (n : Int) := by omega
        have h0I : (0 : Int) ≤ (k : Int) := by omega
        have hkI : ((k : Int)).toNat = k := by omega
        cases hb : (X k != Y k)
        · go_wp2_with fail
          go_quiet (fail)
          go_wp2_with fail
          go_roundw
          case rel =>
            refine ⟨k + 1, by omega, by go_num, fun i hi => ?_, _, rfl⟩
            by_cases he : i = k
            · subst he; simpa using hb
            · exact HS.out i (by omega)
          case measure => simp [intOf]; omega
        · go_wp2_with fail
          go_quiet (fail)
          go_wp2_with fail
          go_ret
          refine ⟨Tells.no rfl (fun h => ?_), _, World.drewN_drewN ..⟩
          have := h.2 k hlt
          rw [this] at hb; simp at hb
      · obtain rfl : n = k := by omega
        go_wp2_with fail
        go_ret
        exact ⟨Tells.yes rfl ⟨rfl, HS.out⟩, _, rfl⟩
  · have hnI : ((n : Int) != (n' : Int)) = true := by simp; omega
    go_wp2_with fail
    go_ret
    exact ⟨Tells.no rfl (fun h => hn h.1), 0, rfl⟩

theorem list_ext_getD {l l' : List Int} (hl : l.length = l'.length) (h : SameTo (fun i => l.getD i 0) (fun i => l'.getD i 0) l.length) : l = l' := by
  apply List.ext_getElem hl
  intro i h1 h2
  have := h i h1
  simpa [List.getD, h1, h2] using this

theorem ints_row (A A' : Option Addr) (c c' : Nat) (l l' : List Int) (w : World) (h : IAt w A l) (h' : IAt w A' l') :
    Calls Try.prog 15 #[.slice A l.length c, .slice A' l'.length c'] w fun e w' => Tells e (l = l') ∧ ∃ k, w' = w.drewN k := by
  refine (ints_any _ _ _ _ _ _ _ _ _ _ w h.nums h'.nums).mono fun e w' hh => ⟨hh.1.iff ?_, hh.2⟩
  constructor
  · rintro ⟨h1, h2⟩; exact list_ext_getD h1 h2
  · rintro rfl; exact ⟨rfl, fun i _ => rfl⟩
theorem ints_same (A A' : Option Addr) (n n' c c' : Nat) (l : List Int) (w : World) (h : IAt w A l) (h' : IAt w A' l) (hn : n = l.length) (hn' : n' = l.length) :
    Calls Try.prog 15 #[.slice A n c, .slice A' n' c'] w fun e w' => e = .returned (.bool true) ∧ ∃ k, w' = w.drewN k := by
  subst hn hn'
  exact (ints_row A A' c c' l l w h h').mono fun e w' hh => ⟨hh.1.true_ rfl, hh.2⟩

end Go.Proofs.Ytdgjfpdfjnkmaaa
