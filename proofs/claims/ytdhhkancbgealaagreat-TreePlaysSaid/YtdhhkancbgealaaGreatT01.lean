import Derived.Test.YtdhhkancbgealaaGreatT00
import Derived.BigRegion
import Derived.WalkKit
import Derived.ArgAppend
import Derived.Laws.OwnMore
section
namespace Go.Proofs.YtdhhkancbgealaaGreat
open Go.RowKit
def takeCode (l u n : Int) : Int := if n < 0 then 1 else if l - u < n then 5 else 0
def takeUsed (l u n : Int) : Int := if n < 0 then u else if l - u < n then u else u + n
def takeMost (l u m n : Int) : Int := if n < 0 then m else if l - u < n then m else if m < u + n then u + n else m
def giveCode (u n : Int) : Int := if n < 0 then 1 else if u < n then 1 else 0
def giveUsed (u n : Int) : Int := if n < 0 then u else if u < n then u else u - n
theorem take_neg {l u m n : Int} (h : n < 0) : takeCode l u n = 1 ∧ takeUsed l u n = u ∧ takeMost l u m n = m := by
 unfold takeCode takeUsed takeMost; simp [h]
theorem take_big {l u m n : Int} (h0 : 0 ≤ n) (h : l - u < n) : takeCode l u n = 5 ∧ takeUsed l u n = u ∧ takeMost l u m n = m := by
 have : ¬ n < 0 := by omega
 unfold takeCode takeUsed takeMost; simp [h, this]
theorem take_ok {l u n : Int} (h0 : 0 ≤ n) (h : n ≤ l - u) : takeCode l u n = 0 ∧ takeUsed l u n = u + n := by
 have h1 : ¬ n < 0 := by omega
 have h2 : ¬ l - u < n := by omega
 unfold takeCode takeUsed; simp [h1, h2]
theorem take_more {l u m n : Int} (h0 : 0 ≤ n) (h : n ≤ l - u) (hm : m < u + n) : takeMost l u m n = u + n := by
 have h1 : ¬ n < 0 := by omega
 have h2 : ¬ l - u < n := by omega
 unfold takeMost; simp [h1, h2, hm]
theorem take_less {l u m n : Int} (h0 : 0 ≤ n) (h : n ≤ l - u) (hm : u + n ≤ m) : takeMost l u m n = m := by
 have h1 : ¬ n < 0 := by omega
 have h2 : ¬ l - u < n := by omega
 have h3 : ¬ m < u + n := by omega
 unfold takeMost; simp [h1, h2, h3]
theorem At.eqs {w : World} {g : Nat} {t : TypeId} {cs cs' : Array Value} (h : At w g t cs) (e : cs = cs') : At w g t cs' := e ▸ h
set_option maxHeartbeats 400000 in
theorem take_any (b : Nat) (l u m n : Int) (w : World) (hm : At w b 87 #[.int .i64 l, .int .i64 u, .int .i64 m]) (hb : 0 ≤ u ∧ u ≤ l ∧ l ≤ 1099511627776) (hn : -9223372036854775808 ≤ n ∧ n ≤ 9223372036854775807) :
  Calls Tryz.prog 80 #[.pointer (some ⟨b, 0, none⟩), .int .i64 n] w fun e w' => e = .returned (.int .i64 (takeCode l u n)) ∧
   Turns w w' b 87 #[.int .i64 l, .int .i64 (takeUsed l u n), .int .i64 (takeMost l u m n)] := by
 have H := Lib.hid hm
 have c1 := hm.cell 1
 have z1 := hm.frozen 1
 have c2 := hm.cell 2
 have z2 := hm.frozen 2
 clear hm
 simp at c1 c2
 go_enter Tryz.func80, Tryz.ntmps80
 by_cases h1 : n < 0
 ·go_wp2
  go_ret
  obtain ⟨e1, e2, e3⟩ := take_neg (l := l) (u := u) (m := m) h1
  rw [e1, e2, e3]
  exact ⟨rfl, Turns.same H.out 0⟩
 ·by_cases h2 : l - u < n
  ·go_wp2_with (go_at_call 90; refine (left_any b l u m _ H.out hb).mono ?_; rintro e w' ⟨rfl, nq, rfl⟩)
   go_ret
   obtain ⟨e1, e2, e3⟩ := take_big (l := l) (u := u) (m := m) (by omega) h2
   rw [e1, e2, e3]
   exact ⟨rfl, Turns.same H.out _⟩
  ·by_cases h3 : m < u + n
   ·go_wp2_with (go_at_call 90; refine (left_any b l u m _ H.out hb).mono ?_; rintro e w' ⟨rfl, nq, rfl⟩)
    go_region
    go_wp2
    go_ret
    obtain ⟨e1, e2⟩ := take_ok (l := l) (u := u) (n := n) (by omega) (by omega)
    rw [e1, e2, take_more (by omega) (by omega) h3]
    refine ⟨rfl, ?_, ?_⟩
    ·exact (((H.out.drewN _).set 1 _).set 2 _).eqs (by simp)
    ·repeat (first | exact grown_refl _ _ | refine grown_set ?_ _ _ | refine grown_drewN ?_ _ | refine grown_drew ?_)
   ·go_wp2_with (go_at_call 90; refine (left_any b l u m _ H.out hb).mono ?_; rintro e w' ⟨rfl, nq, rfl⟩)
    go_region
    go_wp2
    go_ret
    obtain ⟨e1, e2⟩ := take_ok (l := l) (u := u) (n := n) (by omega) (by omega)
    rw [e1, e2, take_less (by omega) (by omega) (by omega)]
    refine ⟨rfl, ?_, ?_⟩
    ·exact (((H.out.drewN _).set 1 _).set 2 _).eqs (by simp)
    ·repeat (first | exact grown_refl _ _ | refine grown_set ?_ _ _ | refine grown_drewN ?_ _ | refine grown_drew ?_)
set_option maxHeartbeats 400000 in
theorem give_any (b : Nat) (l u m n : Int) (w : World) (hm : At w b 87 #[.int .i64 l, .int .i64 u, .int .i64 m]) (hb : 0 ≤ u ∧ u ≤ l ∧ l ≤ 1099511627776) (hn : -9223372036854775808 ≤ n ∧ n ≤ 9223372036854775807) :
  Calls Tryz.prog 87 #[.pointer (some ⟨b, 0, none⟩), .int .i64 n] w fun e w' => e = .returned (.int .i64 (giveCode u n)) ∧
   Turns w w' b 87 #[.int .i64 l, .int .i64 (giveUsed u n), .int .i64 m] := by
 have H := Lib.hid hm
 have c1 := hm.cell 1
 have z1 := hm.frozen 1
 clear hm
 simp at c1
 go_enter Tryz.func87, Tryz.ntmps87
 by_cases h1 : n < 0
 ·go_wp2
  go_ret
  have e1 : giveCode u n = 1 := by unfold giveCode; rw [if_pos h1]
  have e2 : giveUsed u n = u := by unfold giveUsed; rw [if_pos h1]
  rw [e1, e2]
  exact ⟨rfl, Turns.same H.out 0⟩
 ·by_cases h2 : u < n
  ·go_wp2
   go_ret
   have e1 : giveCode u n = 1 := by unfold giveCode; rw [if_neg (by omega : ¬ n < 0), if_pos h2]
   have e2 : giveUsed u n = u := by unfold giveUsed; rw [if_neg (by omega : ¬ n < 0), if_pos h2]
   rw [e1, e2]
   exact ⟨rfl, Turns.same H.out 0⟩
  ·go_wp2
   go_ret
   have e1 : giveCode u n = 0 := by unfold giveCode; rw [if_neg (by omega : ¬ n < 0), if_neg (by omega : ¬ u < n)]
   have e2 : giveUsed u n = u - n := by unfold giveUsed; rw [if_neg (by omega : ¬ n < 0), if_neg (by omega : ¬ u < n)]
   rw [e1, e2]
   exact ⟨rfl, (H.out.set 1 _).eqs (by simp), grown_set (grown_refl _ _) _ _⟩
set_option maxHeartbeats 400000 in
theorem rtake_any (b : Nat) (l u m n : Int) (w : World) (hm : At w b 44 #[.int .i64 l, .int .i64 u, .int .i64 m]) (hb : 0 ≤ u ∧ u ≤ l ∧ l ≤ 1099511627776) (hn : -9223372036854775808 ≤ n ∧ n ≤ 9223372036854775807) :
  Calls Tryz.prog 69 #[.pointer (some ⟨b, 0, none⟩), .int .i64 n] w fun e w' => e = .returned (.int .i64 (takeCode l u n)) ∧
   Turns w w' b 44 #[.int .i64 l, .int .i64 (takeUsed l u n), .int .i64 (takeMost l u m n)] := by
 have H := Lib.hid hm
 have c0 := hm.cell 0
 have c1 := hm.cell 1
 have z1 := hm.frozen 1
 have c2 := hm.cell 2
 have z2 := hm.frozen 2
 clear hm
 simp at c0 c1 c2
 go_enter Tryz.func69, Tryz.ntmps69
 by_cases h1 : n < 0
 ·go_wp2
  go_ret
  obtain ⟨e1, e2, e3⟩ := take_neg (l := l) (u := u) (m := m) h1
  rw [e1, e2, e3]
  exact ⟨rfl, Turns.same H.out 0⟩
 ·by_cases h2 : l - u < n
  ·go_wp2
   go_quiet (fail)
   go_wp2
   go_ret
   obtain ⟨e1, e2, e3⟩ := take_big (l := l) (u := u) (m := m) (by omega) h2
   rw [e1, e2, e3]
   exact ⟨rfl, Turns.same H.out _⟩
  ·by_cases h3 : m < u + n
   all_goals
    go_wp2
    go_quiet (fail)
    go_wp2
    go_quiet (fail)
    go_wp2
    go_ret
    obtain ⟨e1, e2⟩ := take_ok (l := l) (u := u) (n := n) (by omega) (by omega)
   ·rw [e1, e2, take_more (by omega) (by omega) h3]
    refine ⟨rfl, ?_, ?_⟩
    ·exact (((H.out.drewN _).set 1 _).set 2 _).eqs (by simp)
    ·repeat (first | exact grown_refl _ _ | refine grown_set ?_ _ _ | refine grown_drewN ?_ _ | refine grown_drew ?_)
   ·rw [e1, e2, take_less (by omega) (by omega) (by omega)]
    refine ⟨rfl, ?_, ?_⟩
    ·exact ((H.out.drewN _).set 1 _).eqs (by simp)
    ·repeat (first | exact grown_refl _ _ | refine grown_set ?_ _ _ | refine grown_drewN ?_ _ | refine grown_drew ?_)
set_option maxHeartbeats 400000 in
theorem rgive_any (b : Nat) (l u m n : Int) (w : World) (hm : At w b 44 #[.int .i64 l, .int .i64 u, .int .i64 m]) (hb : 0 ≤ u ∧ u ≤ l ∧ l ≤ 1099511627776) (hn : -9223372036854775808 ≤ n ∧ n ≤ 9223372036854775807) :
  Calls Tryz.prog 44 #[.pointer (some ⟨b, 0, none⟩), .int .i64 n] w fun e w' => e = .returned (.int .i64 (giveCode u n)) ∧
   Turns w w' b 44 #[.int .i64 l, .int .i64 (giveUsed u n), .int .i64 m] := by
 have H := Lib.hid hm
 have c1 := hm.cell 1
 have z1 := hm.frozen 1
 clear hm
 simp at c1
 go_enter Tryz.func44, Tryz.ntmps44
 by_cases h1 : n < 0
 ·go_wp2
  go_ret
  have e1 : giveCode u n = 1 := by unfold giveCode; rw [if_pos h1]
  have e2 : giveUsed u n = u := by unfold giveUsed; rw [if_pos h1]
  rw [e1, e2]
  exact ⟨rfl, Turns.same H.out 0⟩
 ·by_cases h2 : u < n
  ·go_wp2
   go_ret
   have e1 : giveCode u n = 1 := by unfold giveCode; rw [if_neg (by omega : ¬ n < 0), if_pos h2]
   have e2 : giveUsed u n = u := by unfold giveUsed; rw [if_neg (by omega : ¬ n < 0), if_pos h2]
   rw [e1, e2]
   exact ⟨rfl, Turns.same H.out 0⟩
  ·go_wp2
   go_ret
   have e1 : giveCode u n = 0 := by unfold giveCode; rw [if_neg (by omega : ¬ n < 0), if_neg (by omega : ¬ u < n)]
   have e2 : giveUsed u n = u - n := by unfold giveUsed; rw [if_neg (by omega : ¬ n < 0), if_neg (by omega : ¬ u < n)]
   rw [e1, e2]
   exact ⟨rfl, (H.out.set 1 _).eqs (by simp), grown_set (grown_refl _ _) _ _⟩
end Go.Proofs.YtdhhkancbgealaaGreat
end
section
namespace Go.Proofs.YtdhhkancbgealaaGreat
open Go.RowKit
set_option linter.unusedVariables false
structure Keeps (S : List Nat) (w w' : World) : Prop where
  os : w'.os = w.os
  tape : w'.tape = w.tape
  output : w'.output = w.output
  size : w.heap.size ≤ w'.heap.size
  block : ∀ k, k < w.heap.size → k ∉ S → w'.heap[k]? = w.heap[k]?
section
variable {S S' : List Nat} {a b c w w' : World}
theorem Keeps.refl (S : List Nat) (w : World) : Keeps S w w := ⟨rfl, rfl, rfl, Nat.le_refl _, fun _ _ _ => rfl⟩
theorem Keeps.trans' (h : Keeps S a b) (k : Keeps S' b c) (hs : ∀ x ∈ S', x ∈ S ∨ a.heap.size ≤ x) : Keeps S a c :=
  ⟨k.os.trans h.os, k.tape.trans h.tape, k.output.trans h.output, Nat.le_trans h.size k.size, fun i hi hn =>
    (k.block i (Nat.lt_of_lt_of_le hi h.size) (fun hm => by rcases hs i hm with h1 | h1; exact hn h1; omega)).trans (h.block i hi hn)⟩
theorem Keeps.trans (h : Keeps S a b) (k : Keeps S b c) : Keeps S a c := h.trans' k (fun _ hx => .inl hx)
theorem Keeps.mono (h : Keeps S a b) (hs : ∀ x ∈ S, x ∈ S' ∨ a.heap.size ≤ x) : Keeps S' a b :=
  ⟨h.os, h.tape, h.output, h.size, fun i hi hn => h.block i hi (fun hm => by rcases hs i hm with h1 | h1; exact hn h1; omega)⟩
theorem Keeps.grown {row : Option Nat} (h : Keeps S a w) (hg : w.grownBy w' row) (hr : ∀ k, row = some k → k ∈ S ∨ a.heap.size ≤ k) : Keeps S a w' :=
  ⟨hg.os.trans h.os, hg.tape.trans h.tape, hg.output.trans h.output, Nat.le_trans h.size hg.size, fun i hi hn =>
    (hg.block i (Nat.lt_of_lt_of_le hi h.size) (fun e => by rcases hr i e.symm with h1 | h1; exact hn h1; omega)).trans (h.block i hi hn)⟩
theorem Keeps.turns {g : Nat} {t : TypeId} {cs : Array Value} (h : Keeps S a w) (ht : Turns w w' g t cs) (hr : g ∈ S ∨ a.heap.size ≤ g) : Keeps S a w' :=
  h.grown ht.grown (fun k hk => by injection hk with hk; subst hk; exact hr)
theorem Keeps.drewN (h : Keeps S a w) (n : Nat) : Keeps S a (w.drewN n) := ⟨h.os, h.tape, h.output, h.size, h.block⟩
theorem Keeps.drew (h : Keeps S a w) : Keeps S a w.drew := ⟨h.os, h.tape, h.output, h.size, h.block⟩
theorem Keeps.alloc (h : Keeps S a w) (o : Obj) : Keeps S a (w.alloc o) :=
  ⟨h.os, h.tape, h.output, Nat.le_trans h.size (by simp), fun i hi hn => (Below.heap_alloc w o i (Nat.lt_of_lt_of_le hi h.size)).trans (h.block i hi hn)⟩
theorem Keeps.set (h : Keeps S a w) {p : Addr} (hr : p.block ∈ S ∨ a.heap.size ≤ p.block) (u : Value) : Keeps S a (w.setCell p u) :=
  ⟨h.os, h.tape, h.output, by simpa [World.setCell] using h.size, fun k hk hn => (Below.heap_setCell w p u k (fun e => by
    rcases hr with h1 | h1
    · exact hn (e ▸ h1)
    · omega)).trans (h.block k hk hn)⟩
theorem Keeps.below {B : Nat} (h : Keeps S a w) (hS : ∀ x ∈ S, B ≤ x) (hB : B ≤ a.heap.size) : Below B a w :=
  ⟨h.os, h.tape, h.output, h.size, fun k hk => h.block k (by omega) (fun hm => by have := hS k hm; omega)⟩
theorem At.keeps {g : Nat} {t : TypeId} {cs : Array Value} (h : At w g t cs) (hk : Keeps S w w') (hg : g ∉ S) : At w' g t cs := by
  have := hk.block g h.lt hg
  unfold At at *
  rw [this]; exact h
theorem own_keeps {B e size n : Nat} {v : Value} {xs : List Value} (h : w.ownsRow B e size v n xs) (hk : Keeps S w w') (hne : ∀ k, v.ownBlock = some k → k ∉ S) : w'.ownsRow B e size v n xs := by
  refine ⟨h.1, ?_⟩
  rcases h.2 with hn | ⟨g, cap, cur, rfl, hb, hgg, rest⟩
  · exact .inl hn
  · refine .inr ⟨g, cap, cur, rfl, hb, ?_, rest⟩
    rw [hk.block g (Array.getElem?_eq_some_iff.1 hgg).1 (hne g rfl)]
    exact hgg
theorem own_below {B B' e size n : Nat} {v : Value} {xs : List Value} (h : w.ownsRow B e size v n xs) (hk : Below B' w w') (hlt : ∀ k, v.ownBlock = some k → k < B') : w'.ownsRow B e size v n xs := by
  refine ⟨h.1, ?_⟩
  rcases h.2 with hn | ⟨g, cap, cur, rfl, hb, hgg, rest⟩
  · exact .inl hn
  · refine .inr ⟨g, cap, cur, rfl, hb, ?_, rest⟩
    rw [hk.block g (hlt g rfl)]
    exact hgg
theorem own_base {B B' e size n : Nat} {v : Value} {xs : List Value} (h : w.ownsRow B e size v n xs) (hB : B' ≤ B) : w.ownsRow B' e size v n xs := by
  refine ⟨h.1, ?_⟩
  rcases h.2 with hn | ⟨g, cap, cur, rfl, hb, rest⟩
  · exact .inl hn
  · exact .inr ⟨g, cap, cur, rfl, by omega, rest⟩
theorem own_apart {B e size n g : Nat} {t : TypeId} {cs : Array Value} {v : Value} {xs : List Value} (h : w.ownsRow B e size v n xs) (ha : At w g t cs) (hne : t ≠ e) : v.ownBlock ≠ some g := by
  rcases h.2 with ⟨rfl, _⟩ | ⟨g', cap, cur, rfl, _, hgg, _⟩
  · simp [Value.ownBlock]
  · intro he
    simp [Value.ownBlock] at he
    subst he
    unfold At at ha
    rw [hgg] at ha
    simp at ha
    exact hne ha.2.symm
theorem own_drewN {B e size n : Nat} {v : Value} {xs : List Value} (h : w.ownsRow B e size v n xs) (k : Nat) : (w.drewN k).ownsRow B e size v n xs := h
def SameOrNew (w : World) (v v' : Value) : Prop := ∀ k, v'.ownBlock = some k → v.ownBlock = some k ∨ w.heap.size ≤ k
theorem SameOrNew.refl (w : World) (v : Value) : SameOrNew w v v := fun _ h => .inl h
end
section
variable {P : Program} (w : World)
theorem run_append_own2 (base : Nat) (t ty e : TypeId) (i : TypeInfo) (z : Value) (size bytes : Nat) (ht : P.underlying t = some (.slice e)) (hi : P.info? e = some i) (hz : i.zero = some z)
    (hsize : i.size = size) (hby : i.bytes = bytes) (hzs : z.cells.size = size) (hsz : 0 < size)
    (v : Value) (n : Nat) (xs : List Value) (hown : w.ownsRow base e size v n xs)
    (a : Addr) (m c : Nat) (news : List Value) (hl : news.length = m * size) (hnews : ∀ j u, news[j]? = some u → w.cell? (a.add j) = some u) (h1 : ∀ u ∈ news, u.oneCell' = true)
    (h63 : n + m ≤ maxLen) (hbytes : (n + m) * bytes ≤ 140737488355328) (hbase : base ≤ w.heap.size) :
    ∃ v' w', (Builtin.append_ #[t, t] ty #[v, .slice (some a) m c]).run P w = .ok v' w' ∧ w'.ownsRow base e size v' (n + m) (xs ++ news) ∧ w.grownBy w' v.ownBlock ∧ SameOrNew w v v' := by
  rcases hown.2 with ⟨rfl, rfl⟩ | ⟨g, cap, cur, rfl, hbg, hg, hnc, hcm, hcs, htake⟩
  · have hx : xs = [] := List.eq_nil_of_length_eq_zero (by simpa using hown.1)
    subst hx
    obtain ⟨v', w', hr, ho, hgr, _⟩ := run_append_own (P := P) w w.heap.size t ty e i z size bytes ht hi hz hsize hby hzs hsz (.slice none 0 0) 0 [] (World.ownsRow_nil w _ e size) a m c news hl hnews h1 h63 hbytes (Nat.le_refl _)
    exact ⟨v', w', hr, own_base ho hbase, hgr, fun k hk => .inr (ho.lt k hk).1⟩
  · by_cases hroom : n + m ≤ cap
    · obtain ⟨w', hr, ho, hgr⟩ := run_append_fits (P := P) w base t ty e i size ht hi hsize g n cap xs hown a m c news hl hnews h1 hroom
      exact ⟨_, w', hr, ho, hgr, fun k hk => .inl hk⟩
    · have holds : ∀ j u, xs[j]? = some u → w.cell? ((⟨g, 0, none⟩ : Addr).add j) = some u := hown.cells (g := g) rfl
      obtain ⟨v', w', hr, ho, hgr⟩ := run_append_arg_grows (P := P) w t ty e i z size bytes ht hi hz hsize hby hzs hsz ⟨g, 0, none⟩ n cap xs hown.1 holds a m c news hl hnews (by omega) h63 hbytes
      exact ⟨v', w', hr, own_base ho hbase, ⟨hgr.os, hgr.tape, hgr.output, hgr.size, fun k hk _ => hgr.block k hk (by simp)⟩, fun k hk => .inr (ho.lt k hk).1⟩
theorem wpList_append_own2 {ops : Array Oper} {rest : List Oper} {o : Oper} {a : Act} {Q : Exit → Act → World → Prop} (hgd : o.guard = none) (s x : Operand) (t : TypeId)
    (ho : o.op = .call { callee := .builtin .append, args := #[s, x], argTypes := #[t, t] })
    (base : Nat) (e : TypeId) (i : TypeInfo) (z : Value) (size bytes : Nat) (ht : P.underlying t = some (.slice e)) (hi : P.info? e = some i) (hz : i.zero = some z)
    (hsize : i.size = size) (hby : i.bytes = bytes) (hzs : z.cells.size = size) (hsz : 0 < size)
    (v : Value) (n : Nat) (xs : List Value) (hs : a.eval s = v) (hown : w.ownsRow base e size v n xs)
    (ad : Addr) (m c : Nat) (news : List Value) (hx : a.eval x = .slice (some ad) m c) (hl : news.length = m * size) (hnews : ∀ j u, news[j]? = some u → w.cell? (ad.add j) = some u) (h1 : ∀ u ∈ news, u.oneCell' = true)
    (h63 : n + m ≤ maxLen) (hbytes : (n + m) * bytes ≤ 140737488355328) (hbase : base ≤ w.heap.size)
    (h : ∀ v' w', w'.ownsRow base e size v' (n + m) (xs ++ news) → w.grownBy w' v.ownBlock → SameOrNew w v v' → wpList P ops Q rest (a.put o.dst v') w') : wpList P ops Q (o :: rest) a w := by
  refine wpList_plain hgd fun K hK => ?_
  obtain ⟨v', w', hr, h2, h3, h4⟩ := run_append_own2 (P := P) w base t o.type e i z size bytes ht hi hz hsize hby hzs hsz v n xs hown ad m c news hl hnews h1 h63 hbytes hbase
  unfold Oper.wp execOp
  simp only [ho, resolve, invoke, builtin, Sem.run_bind, Sem.run_pure, Result.andThen_ok, List.map_toArray, List.map_cons, List.map_nil, hs, hx, hr]
  exact hK _ _ (h v' w' h2 h3 h4)
theorem run_clear_own (base : Nat) (t e : TypeId) (z : Value) (size : Nat) (ht : P.underlying t = some (.slice e)) (hv : ∀ w, (zeroValue e).run P w = .ok z w) (hz1 : ∀ u ∈ z.cells.toList, u.oneCell' = true) (hzs : z.cells.size = size)
    (g n cap : Nat) (xs : List Value) (hown : w.ownsRow base e size (.slice (some ⟨g, 0, none⟩) n cap) n xs) (k o m c : Nat) (hk : k < n) (ho : o = k * size) (hm : m = n - k) :
    ∃ w', (∀ ty, (Builtin.clear_ #[t] ty #[.slice (some ⟨g, o, none⟩) m c]).run P w = .ok (.tuple #[]) w') ∧ w'.ownsRow base e size (.slice (some ⟨g, 0, none⟩) k cap) k (xs.take (k * size)) ∧ w.grownBy w' (some g) := by
  subst ho hm
  rcases hown.2 with ⟨h, _⟩ | ⟨g', cap', cur, h, hbg, hg, hnc, hcm, hcs, htake⟩
  · simp at h
  · simp only [Value.slice.injEq, Option.some.injEq, Addr.mk.injEq, and_true, true_and] at h
    obtain ⟨rfl, rfl⟩ := h
    have hzl : (Builtin.zeroCells z.cells (n - k)).toList.length = (n - k) * size := by simp [Builtin.zeroCells, hzs]
    have hfit : k * size + (n - k) * size ≤ cur.size := by
      rw [hcs, ← Nat.add_mul]; exact Nat.mul_le_mul_right _ (by omega)
    have hone : ∀ u ∈ (Builtin.zeroCells z.cells (n - k)).toList, u.oneCell' = true := by
      intro u hu
      simp only [Array.mem_toList_iff, Builtin.zeroCells, Array.mem_map] at hu
      obtain ⟨i, hi, rfl⟩ := hu
      by_cases h0 : z.cells.size = 0
      · simp [h0] at hi
      · have hlt : i % z.cells.size < z.cells.size := Nat.mod_lt _ (by omega)
        rw [getElem!_pos z.cells (i % z.cells.size) hlt]
        exact hz1 _ (by simp)
    have hst := run_storeCells_at P g (k * size) e (Builtin.zeroCells z.cells (n - k)).toList 0 cur w hg (by simpa [hzl] using hfit) hone
    simp only [Nat.add_zero] at hst
    obtain ⟨q, hq⟩ : ∃ q, n - k = q + 1 := ⟨n - k - 1, by omega⟩
    refine ⟨w.setRow g (cur.toList.take (k * size) ++ (Builtin.zeroCells z.cells (n - k)).toList ++ cur.toList.drop (k * size + (Builtin.zeroCells z.cells (n - k)).toList.length)).toArray, ?_, ⟨?_, .inr ⟨g, cap, _, rfl, hbg, setRow_heap w g cur _ e _ hg, by omega, hcm, ?_, ?_⟩⟩,
      ⟨rfl, rfl, rfl, by simp, fun j _ hj => setRow_other w g j _ (fun e => hj (by simp [e]))⟩⟩
    · intro ty
      rw [hq] at hst ⊢
      simp [Builtin.clear_, run_underlying ht, hv] at hst ⊢
      simp [hst]
    · rw [List.length_take, hown.1]; exact Nat.min_eq_left (Nat.mul_le_mul_right _ (by omega))
    · simp only [List.size_toArray, List.length_append, List.length_take, List.length_drop, Array.length_toList, hzl] at *
      omega
    · have h1 : k * size ≤ cur.toList.length := by simp only [Array.length_toList]; omega
      have h2 : xs.take (k * size) = cur.toList.take (k * size) := by
        rw [← htake, List.take_take, Nat.min_eq_left (Nat.mul_le_mul_right _ (by omega))]
      rw [h2]
      simp only [List.append_assoc]
      rw [List.take_append_of_le_length (by simp; omega)]
      rw [List.take_take, Nat.min_self]
theorem run_clear_empty (t e ty : TypeId) (ht : P.underlying t = some (.slice e)) (a : Option Addr) (c : Nat) : (Builtin.clear_ #[t] ty #[.slice a 0 c]).run P w = .ok (.tuple #[]) w := by
  cases a <;> simp [Builtin.clear_, run_underlying ht]
theorem own_cut {w : World} {base e size g n cap : Nat} {xs : List Value} (hown : w.ownsRow base e size (.slice (some ⟨g, 0, none⟩) n cap) n xs) (k : Nat) (hk : k ≤ n) :
    w.ownsRow base e size (.slice (some ⟨g, 0, none⟩) k cap) k (xs.take (k * size)) := by
  rcases hown.2 with ⟨h, _⟩ | ⟨g', cap', cur, h, hbg, hg, hnc, hcm, hcs, htake⟩
  · simp at h
  · simp only [Value.slice.injEq, Option.some.injEq, Addr.mk.injEq, and_true, true_and] at h
    obtain ⟨rfl, rfl⟩ := h
    refine ⟨?_, .inr ⟨g, cap, cur, rfl, hbg, hg, by omega, hcm, hcs, ?_⟩⟩
    · rw [List.length_take, hown.1]; exact Nat.min_eq_left (Nat.mul_le_mul_right _ hk)
    · rw [← htake, List.take_take, Nat.min_eq_left (Nat.mul_le_mul_right _ hk)]
end
theorem own_shape {w : World} {base e size n : Nat} {v : Value} {xs : List Value} (h : w.ownsRow base e size v n xs) :
    (v = .slice none 0 0 ∧ n = 0 ∧ xs = []) ∨ ∃ g cap, v = .slice (some ⟨g, 0, none⟩) n cap ∧ n ≤ cap ∧ cap ≤ maxLen ∧ base ≤ g ∧ g < w.heap.size := by
  rcases h.2 with ⟨rfl, rfl⟩ | ⟨g, cap, cur, rfl, hb, hg, hnc, hcm, _⟩
  · exact .inl ⟨rfl, rfl, List.eq_nil_of_length_eq_zero (by simpa using h.1)⟩
  · exact .inr ⟨g, cap, rfl, hnc, hcm, hb, (Array.getElem?_eq_some_iff.1 hg).1⟩
section
variable {X : Type} (V : X → Value)
def tot (L : List (X × Int)) : Int := (L.map (·.2)).sum
def flat (L : List (X × Int)) : List Value := L.flatMap fun p => [V p.1, .int .i64 p.2]
end
end Go.Proofs.YtdhhkancbgealaaGreat
end
