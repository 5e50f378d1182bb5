import Derived.Test.YtdhhkancbgealaaGreatT33
import Derived.Test.YtdhhkancbgealaaGreatT31
import Derived.Test.YtdhhkancbgealaaGreatT22
import Derived.Test.YtdhhkancbgealaaGreatT00
import Derived.Test.YtdhhkancbgealaaGreatT20
import Derived.Test.YtdhhkancbgealaaGreatT07
import Derived.Test.YtdhhkancbgealaaGreatT30
section
namespace Go.Proofs.YtdhhkancbgealaaGreat
open Go.RowKit Go.Shelf
open Lx
set_option linter.unusedVariables false
set_option linter.unusedSimpArgs false
set_option maxRecDepth 100000
namespace Tr
def pick (L : List Nd) (n : Nat) : Nat → List Int → List Int
 | 0, out => out
 | i + 1, out => if out.length < n then pick L n i (if (at_ L (i : Int)).under = true then out else (i : Int) :: out) else out
def lastKids (L : List Nd) (n : Nat) : List Int := pick L n L.length []
theorem pick_len (L : List Nd) (n : Nat) : ∀ (i : Nat) (out : List Int), out.length ≤ n → (pick L n i out).length ≤ n
 | 0, out, h => h
 | i + 1, out, h => by
  unfold pick
  split
  ·refine pick_len L n i _ ?_
   split
   ·exact h
   ·simp; omega
  ·exact h
theorem pick_done {L : List Nd} {n i : Nat} {out : List Int} (h : ¬ out.length < n) : pick L n i out = out := by
 cases i with
 | zero => rfl
 | succ i => unfold pick; rw [if_neg h]
theorem pick_skip {L : List Nd} {n i : Nat} {out : List Int} (h : out.length < n) (hu : (at_ L (i : Int)).under = true) : pick L n (i + 1) out = pick L n i out := by
 show (if _ then _ else _) = _
 rw [if_pos h, if_pos hu]
theorem pick_take {L : List Nd} {n i : Nat} {out : List Int} (h : out.length < n) (hu : (at_ L (i : Int)).under = false) : pick L n (i + 1) out = pick L n i ((i : Int) :: out) := by
 show (if _ then _ else _) = _
 rw [if_pos h, if_neg (by rw [hu]; decide)]
end Tr
theorem own_litT (w : World) (t : TypeId) (x : Value) : (w.alloc (.cells #[x] t)).ownsRow w.heap.size t 1 (.slice (some ⟨w.heap.size, 0, none⟩) 1 1) 1 [x] :=
 ⟨rfl, .inr ⟨w.heap.size, 1, #[x], rfl, Nat.le_refl _, At.new w t #[x], Nat.le_refl _, by unfold maxLen; omega, rfl, by simp⟩⟩
section
variable {P : Program}
theorem wpList_append_own3T (w : World) {ops : Array Oper} {rest : List Oper} {o : Oper} {a : Act} {Q : Exit → Act → World → Prop} (hgd : o.guard = none) (s x : Operand) (t : TypeId)
  (ho : o.op = .call { callee := .builtin .append, args := #[s, x], argTypes := #[t, t] })
  (base : Nat) (e : TypeId) (i : TypeInfo) (z : Value) (size bytes : Nat) (ht : P.underlying t = some (.slice e)) (hi : P.info? e = some i) (hz : i.zero = some z)
  (hsize : i.size = size) (hby : i.bytes = bytes) (hzs : z.cells.size = size) (hsz : 0 < size)
  (v : Value) (n : Nat) (xs : List Value) (hs : a.eval s = v) (hown : w.ownsRow base e size v n xs)
  (A : Option Addr) (m c : Nat) (news : List Value) (hx : a.eval x = .slice A m c) (hl : news.length = m * size) (hnews : LiesT w A news) (h1 : ∀ u ∈ news, u.oneCell' = true)
  (h63 : n + m ≤ maxLen) (hbytes : (n + m) * bytes ≤ 140737488355328) (hbase : base ≤ w.heap.size)
  (h : ∀ v' w', w'.ownsRow base e size v' (n + m) (xs ++ news) → w.grownBy w' v.ownBlock → SameOrNew w v v' → wpList P ops Q rest (a.put o.dst v') w') : wpList P ops Q (o :: rest) a w := by
 refine wpList_plain hgd fun K hK => ?_
 obtain ⟨v', w', hr, h2, h3, h4⟩ := run_append_own3T (P := P) w base t o.type e i z size bytes ht hi hz hsize hby hzs hsz v n xs hown A m c news hl hnews h1 h63 hbytes hbase
 unfold Oper.wp execOp
 simp only [ho, resolve, invoke, builtin, Sem.run_bind, Sem.run_pure, Result.andThen_ok, List.map_toArray, List.map_cons, List.map_nil, hs, hx, hr]
 exact hK _ _ (h v' w' h2 h3 h4)
end
theorem own_capT {w : World} {B n c m : Nat} {A : Option Addr} {t : TypeId} {xs : List Value} (h : w.ownsRow B t 1 (.slice A n c) m xs) : m ≤ c := by
 rcases h.2 with ⟨hv, h0⟩ | ⟨g, cap', cur, e, hb, h1, h2, _⟩
 ·omega
 ·injection e with e1 e2 e3
  omega
set_option maxHeartbeats 8000000 in
theorem kids_any (n : Nat) (w : World) (B rt rm : Nat) (l m : Int) (v : Value) (S : List Sl) (h : RefIs w B rt rm l m v S) (hn : n ≤ 1000000) :
  Calls Tryz.prog 46 #[.pointer (some ⟨rt, 0, none⟩), .int .i64 (n : Int)] w fun e w' => ∃ A c, e = .returned (.slice A (Tr.lastKids (nds S) n).length c) ∧ (Tr.lastKids (nds S) n).length ≤ c ∧ Lie w' 3 A (vals (Tr.lastKids (nds S) n)) ∧ Below w.heap.size w w' := by
 obtain ⟨ao, cap, rfl⟩ := own_form h.own
 have HT := Lib.hid h
 have hszS := h.size
 have c1 := h.at_.cell 1
 have hrl := h.at_.lt
 simp only [List.getElem?_toArray, List.getElem?_cons_zero, List.getElem?_cons_succ] at c1
 obtain ⟨N, hN⟩ : ∃ N, S.length = N := ⟨_, rfl⟩
 have HN := Lib.hid hN
 rw [hN] at c1 hszS
 obtain ⟨K, hK⟩ : ∃ K, Tr.lastKids (nds S) n = K := ⟨_, rfl⟩
 rw [hK]
 have HK := Lib.hid hK
 obtain ⟨j0, hj0, hj1, hj2, hj3⟩ := info_parts infoIntW
 have hw1 : IntKind.i64.wrap ((N : Int) - 1) = (N : Int) - 1 := by rw [IntKind.wrap_i64]; omega
 clear h hN hK
 go_enter Tryz.func46, Tryz.ntmps46
 go_wp2_with fail
 go_loopw [5, 6] (fun out i wr => ∃ (j : Nat) (X : List Int) (A : Option Addr) (c : Nat), j ≤ N ∧ i = .int .i64 ((j : Int) - 1) ∧ out = .slice A X.length c ∧ X.length ≤ n ∧ wr.ownsRow w.heap.size 3 1 (.slice A X.length c) X.length (vals X) ∧ Below w.heap.size w wr ∧ Tr.pick (nds S) n j X = K) (fun _ i _ => (intOf i + 1).toNat)
 case atStart => exact ⟨N, [], none, 0, Nat.le_refl _, rfl, rfl, Nat.zero_le _, World.ownsRow_nil _ _ _ _, Below.refl _ _, by rw [← HK.out]; unfold Tr.lastKids; rw [nds_len, HN.out]⟩
 case round =>
  obtain ⟨j, X, A, c, hj, rfl, rfl, hXn, ho, hb, hp⟩ := hrel
  have HO := Lib.hid ho
  have HB := Lib.hid hb
  have HP := Lib.hid hp
  have d1 := (hb.cell (p := ⟨rt, 1, none⟩) hrl).trans c1
  obtain ⟨m0, hm0⟩ : ∃ m0, X.length = m0 := ⟨_, rfl⟩
  rw [hm0] at HO hXn ⊢
  have HM := Lib.hid hm0
  clear ho hb hp hm0
  cases j with
  | zero =>
   have hm : ¬ (0 : Int) ≤ ((0 : Nat) : Int) - 1 := by omega
   have hKX : K = X := HP.out.symm
   have HKX := Lib.hid hKX
   clear hKX
   go_wp2_with fail
   go_ret
   rw [HKX.out, HM.out]
   exact ⟨A, c, rfl, own_capT HO.out, Lie.own HO.out, HB.out⟩
  | succ i =>
   have he : (((i + 1 : Nat) : Int) - 1) = (i : Int) := by omega
   rw [he]
   have hi0 : (0 : Int) ≤ (i : Int) := by omega
   have hiN : (i : Int) < (N : Int) := by omega
   have hwi : IntKind.i64.wrap ((i : Int) - 1) = (i : Int) - 1 := by rw [IntKind.wrap_i64]; omega
   by_cases hlt : m0 < n
   ·have hltI : (m0 : Int) < (n : Int) := by omega
    obtain ⟨s, hs⟩ : ∃ s, S[i]? = some s := ⟨_, List.getElem?_eq_getElem (by rw [HN.out]; omega)⟩
    obtain ⟨b2, cap', e, _, hbl2, hcl, hfz⟩ := (HT.out.below HB.out).cells hs
    simp only [Value.slice.injEq] at e
    obtain ⟨e1, _, e3⟩ := e
    subst e1 e3
    have y7 := hcl 7 (.bool s.x.under) (by omega) rfl
    have hun : (Tr.at_ (nds S) (i : Int)).under = s.x.under := by rw [Tr.at_of (nds_at hs)]
    obtain ⟨U, hU⟩ : ∃ U, s.x.under = U := ⟨_, rfl⟩
    rw [hU] at y7 hun
    have HUN := Lib.hid hun
    clear hcl hfz hs hun hU he
    cases U with
    | true =>
     go_wp2_with fail
     go_roundw
     case rel => exact ⟨i, X, A, c, by omega, rfl, by rw [HM.out], by rw [HM.out]; exact hXn, by rw [HM.out]; exact HO.out, HB.out, by rw [← Tr.pick_skip (by rw [HM.out]; exact hlt) HUN.out]; exact HP.out⟩
     case measure => simp [intOf]; try omega
    | false =>
     have hbs := HB.out.size
     go_wp2_with (at_builtin; (refine wpList_append_own3T _ rfl (.tmp 33) (.tmp 34) 32 rfl w.heap.size 3 j0 _ 1 8 Tryz.underlying32 hj0 hj1 hj2 hj3 rfl (by decide) _ 1 [.int .i64 (i : Int)] rfl (own_base (own_litT wr 3 (.int .i64 (i : Int))) hbs) A m0 c (vals X) rfl (by rw [vals_lenT, HM.out]; omega) (LiesT_lie ((Lie.own HO.out).alloc _)) (vals_oneT _) (by unfold maxLen; omega) (by omega) (by simp; omega) ?_; intro v5 w5 ho5 hg5 hn5; obtain ⟨a5, c5, rfl⟩ := own_form ho5; have hb5 := (HB.out.alloc hbs (.cells #[.int .i64 (i : Int)] 3)).grown hg5 (by simp; omega) (fun j hj => by have h9 : some wr.heap.size = some j := hj; injection h9 with h9; omega); have HO5 := Lib.hid ho5; have HB5 := Lib.hid hb5; clear ho5 hg5 hn5 hb5))
     have hwn : (1 + m0 : Nat) = m0 + 1 := Nat.add_comm _ _
     go_roundw
     case rel =>
      refine ⟨i, (i : Int) :: X, a5, c5, by omega, rfl, by rw [List.length_cons, HM.out, Nat.add_comm], by rw [List.length_cons, HM.out]; omega, ?_, HB5.out, by rw [← Tr.pick_take (by rw [HM.out]; exact hlt) HUN.out]; exact HP.out⟩
      rw [List.length_cons, HM.out, Nat.add_comm]; exact HO5.out
     case measure => simp [intOf]; try omega
   ·have hltI : ¬ (m0 : Int) < (n : Int) := by omega
    have hKX : K = X := by rw [← HP.out]; exact Tr.pick_done (by rw [HM.out]; exact hlt)
    have HKX := Lib.hid hKX
    clear hKX he
    go_wp2_with fail
    go_ret
    rw [HKX.out, HM.out]
    exact ⟨A, c, rfl, own_capT HO.out, Lie.own HO.out, HB.out⟩
end Go.Proofs.YtdhhkancbgealaaGreat
end
section
namespace Go.Proofs.YtdhhkancbgealaaGreat
open Go.RowKit
set_option linter.unusedVariables false
set_option linter.unusedSimpArgs false
theorem addN_len (l : List Rd.Name) : ∀ a : List Rd.Name, (l.foldl Nm.addN a).length ≤ a.length + l.length := by
 induction l with
 | nil => intro a; simp
 | cons n l ih =>
  intro a
  have := ih (Nm.addN a n)
  have h2 : (Nm.addN a n).length ≤ a.length + 1 := by unfold Nm.addN; split <;> simp
  show (l.foldl Nm.addN (Nm.addN a n)).length ≤ _
  rw [List.length_cons]; omega
theorem addN_mem (l : List Rd.Name) : ∀ (a : List Rd.Name) (n : Rd.Name), n ∈ l.foldl Nm.addN a → n ∈ a ∨ n ∈ l := by
 induction l with
 | nil => intro a n h; exact .inl h
 | cons m l ih =>
  intro a n h
  rcases ih (Nm.addN a m) n h with h1 | h1
  ·unfold Nm.addN at h1
   split at h1
   ·exact .inl h1
   ·rcases List.mem_append.1 h1 with h1 | h1
    ·exact .inl h1
    ·simp at h1; exact .inr (by simp [h1])
  ·exact .inr (by simp [h1])
theorem addR_lenT (a : List Rd.Rule) (v : Nat) : a.length ≤ (Sm.addR a v).length ∧ (Sm.addR a v).length ≤ a.length + 1 := by
 unfold Sm.addR; split <;> simp
theorem rules_lenT {s : Sm.S} : ∀ k, s.lefts.length ≤ (Sm.rules s k).length ∧ (Sm.rules s k).length ≤ s.lefts.length + k
 | 0 => by
  have : Sm.rules s 0 = Sm.rules0 s := rfl
  rw [this]; unfold Sm.rules0; simp
 | k + 1 => by
  have h1 := rules_lenT (s := s) k
  have h2 := addR_lenT (Sm.rules s k) k
  have : Sm.rules s (k + 1) = Sm.addR (Sm.rules s k) k := by unfold Sm.rules; rw [List.range_succ, List.foldl_append]; rfl
  rw [this]; omega
theorem rules_memT {s : Sm.S} : ∀ {k : Nat} {r : Rd.Rule}, r ∈ Sm.rules s k → (∃ i, r = Sm.rule s i) ∨ ∃ v, r = ⟨Sm.stuv v, [], [], []⟩
 | 0, r, h => by
  have e : Sm.rules s 0 = Sm.rules0 s := rfl
  rw [e] at h; unfold Sm.rules0 at h
  obtain ⟨i, _, rfl⟩ := List.mem_map.1 h
  exact .inl ⟨i, rfl⟩
 | k + 1, r, h => by
  have e : Sm.rules s (k + 1) = Sm.addR (Sm.rules s k) k := by unfold Sm.rules; rw [List.range_succ, List.foldl_append]; rfl
  rw [e] at h
  unfold Sm.addR at h
  split at h
  ·exact rules_memT h
  ·rcases List.mem_append.1 h with h | h
   ·exact rules_memT h
   ·simp at h; exact .inr ⟨k, h⟩
theorem rules_pos {s : Sm.S} (k : Nat) : 1 ≤ (Sm.rules s (k + 1)).length := by
 have e : Sm.rules s (k + 1) = Sm.addR (Sm.rules s k) k := by unfold Sm.rules; rw [List.range_succ, List.foldl_append]; rfl
 rw [e]
 unfold Sm.addR
 split
 ·rename_i h
  unfold Sm.hasL at h
  obtain ⟨r, hr, _⟩ := List.any_eq_true.1 h
  cases hs : Sm.rules s k with
  | nil => rw [hs] at hr; cases hr
  | cons a l => simp
 ·simp
structure PlanS (P : Nm.Plan) : Prop where
 b : PlanB P
 two : 2 ≤ P.rules.length ∧ P.rules.length ≤ 100
 right : ∀ p ∈ P.rules, p.right.length ≤ 1000
theorem small_plan {s : Sm.S} (h20 : s.lefts.length ≤ 20) (h8 : ∀ l ∈ s.rights, l.length ≤ 8) : PlanS (Nm.plan (Sm.gram s)) := by
 have hv : 1 ≤ Sm.nv s ∧ Sm.nv s ≤ 4 := by unfold Sm.nv; omega
 have ht : 1 ≤ Sm.nt s ∧ Sm.nt s ≤ 5 := by unfold Sm.nt; omega
 have hr := rules_lenT (s := s) (Sm.nv s)
 have hr1 : 1 ≤ (Sm.rules s (Sm.nv s)).length := by
  obtain ⟨k, hk⟩ : ∃ k, Sm.nv s = k + 1 := ⟨Sm.nv s - 1, by omega⟩
  rw [hk]; exact rules_pos k
 have hg : (Sm.gram s).rules = Sm.rules s (Sm.nv s) := rfl
 have hR : (Nm.plan (Sm.gram s)).rules.length = (Sm.rules s (Sm.nv s)).length + 1 := by
  show (_ :: _ : List _).length = _
  rw [List.length_cons, List.length_map, hg]
 refine ⟨⟨?_, ?_, by rw [hR]; omega, ?_, ?_⟩, by rw [hR]; omega, ?_⟩
 ·show (Nm.terms (Sm.gram s)).length ≤ _
  unfold Nm.terms
  rw [List.length_cons, List.length_map]
  show ((List.range (Sm.nt s)).map Sm.tok).length + 1 ≤ _
  simp; omega
 ·show (Nm.vars (Sm.gram s)).length ≤ _
  unfold Nm.vars Nm.varsOf
  have := addN_len ((Sm.gram s).rules.map Rd.Rule.left) []
  rw [List.length_map, hg] at this
  rw [hg]
  simp at this ⊢; omega
 ·intro n hn
  have hn : n ∈ Nm.terms (Sm.gram s) := hn
  unfold Nm.terms at hn
  rcases List.mem_cons.1 hn with rfl | hn
  ·decide
  ·obtain ⟨t, ht, rfl⟩ := List.mem_map.1 hn
   obtain ⟨i, _, rfl⟩ := List.mem_map.1 (show t ∈ (List.range (Sm.nt s)).map Sm.tok from ht)
   show (Sm.abc i).length ≤ 1000
   simp [Sm.abc]
 ·intro n hn
  have hn : n ∈ Nm.vars (Sm.gram s) := hn
  unfold Nm.vars Nm.varsOf at hn
  rcases addN_mem _ _ _ hn with h | h
  ·cases h
  ·obtain ⟨r, hr, rfl⟩ := List.mem_map.1 h
   rcases rules_memT (show r ∈ Sm.rules s (Sm.nv s) from hr) with ⟨i, rfl⟩ | ⟨v, rfl⟩
   ·show (Sm.stuv _).length ≤ 1000
    simp [Sm.stuv]
   ·show (Sm.stuv _).length ≤ 1000
    simp [Sm.stuv]
 ·intro p hp
  have hp : p ∈ (⟨Nm.acceptG (Sm.gram s), [Nm.symG (Sm.gram s) (Sm.gram s).start], 0⟩ :: (Sm.gram s).rules.map (Nm.prod (Sm.gram s)) : List Nm.Prod) := hp
  rcases List.mem_cons.1 hp with rfl | hp
  ·show 1 ≤ 1000; decide
  ·obtain ⟨r, hr, rfl⟩ := List.mem_map.1 hp
   show (r.right.map _).length ≤ 1000
   rw [List.length_map]
   rcases rules_memT (show r ∈ Sm.rules s (Sm.nv s) from hr) with ⟨i, rfl⟩ | ⟨v, rfl⟩
   ·show (Sm.right s i).length ≤ 1000
    unfold Sm.right
    split
    ·rename_i hi
     rw [List.length_map, List.getD_eq_getElem?_getD, List.getElem?_eq_getElem hi]
     have := h8 _ (List.getElem_mem hi)
     simp; omega
    ·simp
   ·simp
end Go.Proofs.YtdhhkancbgealaaGreat
end
section
/-
  The calls of stage 18's laws as arguments.
-/
namespace Go.Proofs.YtdhhkancbgealaaGreat
open Go.ChangeShapes Go.WideShapes Go.ChangeAt Go.RowKit
open Lx
set_option linter.unusedVariables false
set_option linter.unusedSimpArgs false
set_option maxRecDepth 100000

namespace Tr
/-- A call: what is done, with what. -/
structure Op where
  d : Int
  r : Int
  s : Int
  x : Tok
  ks : List Int
end Tr
/-- A list of ints' cells, with room for them. -/
def IntZ (w : World) (B : Nat) (v : Value) (l : List Int) : Prop := ∃ A c, v = .slice A l.length c ∧ l.length ≤ c ∧ Cl w B A (vals l)
def opC (p : Tr.Op × Value) : List Value := [.int .i64 p.1.d, .int .i64 p.1.r, .int .i64 p.1.s, .int .i64 p.1.x.t, .int .i64 p.1.x.a, .int .i64 p.1.x.b, p.2]
def inI (i : Int) : Prop := -9223372036854775808 ≤ i ∧ i ≤ 9223372036854775807
def opIn (o : Tr.Op) : Prop := inI o.d ∧ inI o.r ∧ inI o.s ∧ inI o.x.t ∧ inI o.x.a ∧ inI o.x.b ∧ (∀ k ∈ o.ks, inI k) ∧ o.ks.length ≤ reachBytes
theorem cZo : Tryz.prog.cellsOf 52 = 7 := by kernel_rfl
theorem cZt : Tryz.prog.cellsOf 50 = 3 := by kernel_rfl
theorem cZi : Tryz.prog.cellsOf 3 = 1 := by kernel_rfl
theorem cZs : Tryz.prog.cellsOf 32 = 1 := by kernel_rfl
theorem listZ3 {α : Type} {l : List α} (h : l.length = 3) : ∃ a b c, l = [a, b, c] := by
  match l, h with
  | [a, b, c], _ => exact ⟨a, b, c, rfl⟩
theorem listZ5 {α : Type} {l : List α} (h : l.length = 5) : ∃ a b c d e, l = [a, b, c, d, e] := by
  match l, h with
  | [a, b, c, d, e], _ => exact ⟨a, b, c, d, e, rfl⟩
theorem flatZ (l : List Int) : l.flatMap (fun i => [Value.int .i64 i]) = vals l := by
  induction l with
  | nil => rfl
  | cons x l ih => rw [List.flatMap_cons, ih]; rfl
section
variable {H : Type} {enc : TypeId × Value → H} {W : World}
theorem cap_read {t e : TypeId} {k : Nat} {A : Option Addr} {n c : Nat} {x : DataW H × List MemPlace} (ht : Tryz.prog.underlying t = some (.slice e)) (h : DataW.trod enc Tryz.prog W 0 (fun _ => true) true k t [.slice A n c] = some x) : n ≤ c := by
  rcases Go.Deep.open_slice ht h with ⟨e, _⟩ | ⟨a, len, cap, m, n', D, Pl, e, hb, hl, _⟩
  · simp at e; omega
  · simp at e; omega
theorem intZ_read {k : Nat} {cs : List Value} {x : DataW H × List MemPlace} (h : DataW.trod enc Tryz.prog W 0 (fun _ => true) true k 3 cs = some x) : ∃ i : Int, cs = [.int .i64 i] ∧ inI i := by
  obtain ⟨i, rfl, _, hw⟩ := DataW.trod_int Tryz.underlying3 h
  exact ⟨i, rfl, wf_i64 hw⟩
theorem ints_read {k : Nat} {cs : List Value} {x : DataW H × List MemPlace} (h : DataW.trod enc Tryz.prog W 0 (fun _ => true) true k 32 cs = some x) (hf : Fits x.1 32) :
    ∃ v, ∃ l : List Int, cs = [v] ∧ IntZ W W.heap.size v l ∧ (∀ i ∈ l, inI i) ∧ l.length ≤ reachBytes := by
  obtain ⟨A, c, l, rfl, h1, h2, h3⟩ := slice_read (α := Int) 0 (fun i => [Value.int .i64 i]) inI Tryz.underlying32 cZi (by decide) (Nat.le_of_ble_eq_true (by kernel_rfl)) (fun _ => rfl) (fun k cs x h hf => intZ_read h) h hf
  rw [flatZ] at h1
  exact ⟨_, l, rfl, ⟨A, c, rfl, cap_read Tryz.underlying32 h, h1⟩, h2, h3⟩
theorem tokZ_read {k : Nat} {cs : List Value} {x : DataW H × List MemPlace} (h : DataW.trod enc Tryz.prog W 0 (fun _ => true) true k 50 cs = some x) :
    ∃ a b c : Int, cs = [.int .i64 a, .int .i64 b, .int .i64 c] ∧ inI a ∧ inI b ∧ inI c := by
  obtain ⟨y0, y1, y2, n, hx, hl, h0, h1, h2⟩ := Go.Deep.trod_struct3 Tryz.underlying50 h
  rw [cZt] at hl
  obtain ⟨a, b, c, rfl⟩ := listZ3 hl
  have h0 : DataW.trod enc Tryz.prog W 0 (fun _ => true) true n 3 (([a, b, c].drop 0).take (Tryz.prog.cellsOf 3)) = some y0 := h0
  have h1 : DataW.trod enc Tryz.prog W 0 (fun _ => true) true n 3 (([a, b, c].drop 1).take (Tryz.prog.cellsOf 3)) = some y1 := h1
  have h2 : DataW.trod enc Tryz.prog W 0 (fun _ => true) true n 3 (([a, b, c].drop 2).take (Tryz.prog.cellsOf 3)) = some y2 := h2
  rw [cZi] at h0 h1 h2
  obtain ⟨t0, e0, b0⟩ := int_field Tryz.underlying3 h0
  obtain ⟨t1, e1, b1⟩ := int_field Tryz.underlying3 h1
  obtain ⟨t2, e2, b2⟩ := int_field Tryz.underlying3 h2
  subst e0 e1 e2
  exact ⟨t0, t1, t2, rfl, b0, b1, b2⟩
theorem op_read {k : Nat} {cs : List Value} {x : DataW H × List MemPlace} (h : DataW.trod enc Tryz.prog W 0 (fun _ => true) true k 52 cs = some x) (hf : Fits x.1 52) :
    ∃ p, cs = opC p ∧ IntZ W W.heap.size p.2 p.1.ks ∧ opIn p.1 := by
  obtain ⟨xs, n, _, rfl, hl, hlen, hfs⟩ := DataW.trod_struct Tryz.underlying52 h
  rw [cZo] at hl
  obtain ⟨a, b, c, d, e, f, g, rfl⟩ := list7 hl
  obtain ⟨y0, y1, y2, y3, y4, rfl⟩ := listZ5 hlen
  have h0 : DataW.trod enc Tryz.prog W 0 (fun _ => true) true n 3 (([a, b, c, d, e, f, g].drop 0).take (Tryz.prog.cellsOf 3)) = some y0 := hfs 0 _ rfl
  have h1 : DataW.trod enc Tryz.prog W 0 (fun _ => true) true n 3 (([a, b, c, d, e, f, g].drop 1).take (Tryz.prog.cellsOf 3)) = some y1 := hfs 1 _ rfl
  have h2 : DataW.trod enc Tryz.prog W 0 (fun _ => true) true n 3 (([a, b, c, d, e, f, g].drop 2).take (Tryz.prog.cellsOf 3)) = some y2 := hfs 2 _ rfl
  have h3 : DataW.trod enc Tryz.prog W 0 (fun _ => true) true n 50 (([a, b, c, d, e, f, g].drop 3).take (Tryz.prog.cellsOf 50)) = some y3 := hfs 3 _ rfl
  have h4 : DataW.trod enc Tryz.prog W 0 (fun _ => true) true n 32 (([a, b, c, d, e, f, g].drop 6).take (Tryz.prog.cellsOf 32)) = some y4 := hfs 4 _ rfl
  rw [cZi] at h0 h1 h2
  rw [cZt] at h3
  rw [cZs] at h4
  obtain ⟨t0, e0, b0⟩ := int_field Tryz.underlying3 h0
  obtain ⟨t1, e1, b1⟩ := int_field Tryz.underlying3 h1
  obtain ⟨t2, e2, b2⟩ := int_field Tryz.underlying3 h2
  obtain ⟨ta, tb, tc, e3, ba, bb, bc⟩ := tokZ_read h3
  obtain ⟨v, l, e4, k1, k2, k3⟩ := ints_read h4 (fits_agg Tryz.underlying52 hf (j := 4) rfl rfl)
  simp only [List.drop_zero, List.drop_succ_cons, List.take_succ_cons, List.take_zero, List.cons.injEq, and_true] at e3 e4
  obtain ⟨rfl, rfl, rfl⟩ := e3
  subst e0 e1 e2 e4
  exact ⟨(⟨t0, t1, t2, ⟨ta, tb, tc⟩, l⟩, g), rfl, k1, b0, b1, b2, ba, bb, bc, k2, k3⟩
/-- The calls l lie in v. -/
def OpsC (w : World) (B : Nat) (v : Value) (l : List Tr.Op) : Prop := ∃ A c, ∃ ql : List (Tr.Op × Value), v = .slice A l.length c ∧ Cl w B A (ql.flatMap opC) ∧ ql.map (·.1) = l ∧ ∀ p ∈ ql, IntZ w B p.2 p.1.ks
theorem open_ops18 {base : Nat} {v : Value} {d : DataW H} {p : List MemPlace} (hv : Value.okWide Tryz.prog W .any base 26 v) (h : DataW.Trod enc Tryz.prog W 0 (fun _ => true) true 26 v d p) (hf : Fits d 26) :
    ∃ l : List Tr.Op, OpsC W W.heap.size v l ∧ (∀ o ∈ l, opIn o) ∧ l.length ≤ reachBytes := by
  obtain ⟨A0, n0, c0, rfl⟩ := okWide_slice Tryz.underlying26 hv
  obtain ⟨k, hk⟩ := h
  obtain ⟨A, c, l, e, h1, h2, h3⟩ := slice_read (α := Tr.Op × Value) (⟨0, 0, 0, Tr.Tok.zero, []⟩, .int .i64 0) opC (fun p => IntZ W W.heap.size p.2 p.1.ks ∧ opIn p.1) Tryz.underlying26 cZo (by decide) (Nat.le_of_ble_eq_true (by kernel_rfl)) (fun _ => rfl) (fun k cs x h hf => op_read h hf) hk hf
  simp [Value.cells] at e
  obtain ⟨rfl, rfl, rfl⟩ := e
  refine ⟨l.map (·.1), ⟨A0, c0, l, by simp, h1, rfl, fun p hp => (h2 p hp).1⟩, fun o ho => ?_, by rw [List.length_map]; exact h3⟩
  obtain ⟨p, hp, rfl⟩ := List.mem_map.1 ho
  exact (h2 p hp).2
end
end Go.Proofs.YtdhhkancbgealaaGreat
end
section
/-
  What a call of stage 18's laws does, in plain words.
-/
namespace Go.Proofs.YtdhhkancbgealaaGreat
set_option linter.unusedVariables false
set_option linter.unusedSimpArgs false
namespace Tr
/-- The rule that a call of the fourth kind names. -/
def toldR (P : Nm.Plan) (o : Op) : Int := 1 + ((o.r.tmod ((P.rules.length : Int) - 1) + ((P.rules.length : Int) - 1)).tmod ((P.rules.length : Int) - 1))
theorem toldR_in {P : Nm.Plan} (h : 2 ≤ P.rules.length) (o : Op) : 1 ≤ toldR P o ∧ toldR P o < (P.rules.length : Int) := by
  unfold toldR
  obtain ⟨n, hn⟩ : ∃ n : Int, (P.rules.length : Int) - 1 = n := ⟨_, rfl⟩
  rw [hn]
  have hp : 0 < n := by omega
  have h1 := Int.lt_tmod_of_pos o.r hp
  have h2 : 0 ≤ o.r.tmod n + n := by omega
  have h3 := Int.tmod_nonneg n h2
  have h4 := Int.tmod_lt_of_pos (o.r.tmod n + n) hp
  omega
def toldP (P : Nm.Plan) (o : Op) : Nm.Prod := P.rules.getD (toldR P o).toNat ⟨0, [], 0⟩
/-- A call as one of the kinds 1 to 3. -/
def told (P : Nm.Plan) (L : List Nd) (o : Op) : Op := if o.d = 4 then ⟨2, toldR P o, (toldP P o).left, Tok.zero, lastKids L (toldP P o).right.length⟩ else o
/-- What is there behind a call. -/
def step (l : Int) (L : List Nd) (o : Op) : List Nd := if o.d = 1 then (leaf l L o.x).L else if o.d = 2 then (node l L o.r o.s o.ks).L else if o.d = 3 then [] else L
def run (P : Nm.Plan) (l : Int) (L : List Nd) (os : List Op) : List Nd := os.foldl (fun L o => step l L (told P L o)) L
theorem step_good {L : List Nd} (h : Good L) (l : Int) (o : Op) : Good (step l L o) := by
  unfold step
  split
  · exact good_leaf h l _
  · split
    · exact good_node h l _ _ _
    · split
      · exact good_nil
      · exact h
theorem step_len (L : List Nd) (l : Int) (o : Op) : (step l L o).length ≤ L.length + 1 := by
  unfold step
  split
  · unfold leaf; split <;> simp
  · split
    · unfold node; split
      · split
        · simp
        · simp [marks_length]
      · simp
    · split <;> simp
theorem run_good (P : Nm.Plan) (l : Int) : ∀ (os : List Op) (L : List Nd), Good L → Good (run P l L os)
  | [], L, h => h
  | o :: os, L, h => run_good P l os _ (step_good h l _)
theorem run_len (P : Nm.Plan) (l : Int) : ∀ (os : List Op) (L : List Nd), (run P l L os).length ≤ L.length + os.length
  | [], L => Nat.le_refl _
  | o :: os, L => by
    have h1 := run_len P l os (step l L (told P L o))
    have h2 := step_len L l (told P L o)
    show (run P l (step l L (told P L o)) os).length ≤ _
    rw [List.length_cons]; omega
theorem run_snoc (P : Nm.Plan) (l : Int) (os : List Op) (o : Op) (L : List Nd) : run P l L (os ++ [o]) = step l (run P l L os) (told P (run P l L os) o) := by simp [run]
end Tr
end Go.Proofs.YtdhhkancbgealaaGreat
end
