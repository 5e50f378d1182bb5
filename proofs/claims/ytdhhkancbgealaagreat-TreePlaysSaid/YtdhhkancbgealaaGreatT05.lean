import Derived.Test.YtdhhkancbgealaaGreatT02
import Derived.Test.YtdhhkancbgealaaGreatT04
import Derived.BigQuiet
import Derived.Deep.QuietTactic
import Derived.Test.YtdhhkancbgealaaGreatT01
import Derived.Test.YtdhhkancbgealaaGreatT00
section
namespace Go.Proofs.YtdhhkancbgealaaGreat
open Go.RowKit
open Lx
set_option linter.unusedVariables false
set_option linter.unusedSimpArgs false
def nameB (l : List UInt8) : Bool := !l.isEmpty && decide ((nameOf l).length = l.length)
theorem rName_any (s : ByteArray) (w : World) (hs : s.size ≤ 9223372036854775807) :
    Calls Tryz.prog 93 #[.string s] w fun e w' => e = .returned (.bool (nameB (bl s))) ∧ w = w' := by
  have hnb : nameB (bl s) = (!s.toList.isEmpty && decide ((nameOf (bl s)).length = s.size)) := by unfold nameB; rw [toList_eq, bl_length]
  have HNB := Lib.hid hnb
  clear hnb
  go_enter Tryz.func93, Tryz.ntmps93
  go_wp2_with fail
  go_loop [3] (fun i => ∃ k : Nat, k ≤ s.size ∧ i = .int .i64 (k : Int) ∧ (nameOf (bl s)).length = k + (if k = 0 then nameOf (bl s) else ((bl s).drop k).takeWhile isName).length) (fun i => s.size - (intOf i).toNat)
  case atStart => exact ⟨0, by omega, rfl, by simp⟩
  case round =>
    obtain ⟨k, hk, rfl, hn⟩ := hrel
    have HN := Lib.hid hn
    clear hn
    by_cases hlt : k < s.size
    · have HD := Lib.hid (bl_drop s k hlt)
      by_cases hl : isLetter s[k] = true
      · go_wp2_with (go_at_call 96; refine (letter2_any _ _).mono ?_; rintro e w' ⟨rfl, rfl⟩)
        go_round
        case rel =>
          refine ⟨k + 1, by omega, by go_num, ?_⟩
          rw [HN.out]
          by_cases h0 : k = 0
          · subst h0
            have e := HD.out
            simp only [List.drop_zero] at e
            rw [if_pos rfl, if_neg (by omega), e, name_cons, if_pos hl, List.takeWhile_cons_of_pos (letter_name hl)]
            simp; omega
          · rw [if_neg h0, if_neg (by omega), HD.out, List.takeWhile_cons_of_pos (letter_name hl)]
            simp; omega
        case measure => simp [intOf]; omega
      · have hl : isLetter s[k] = false := by simpa using hl
        by_cases h0 : k = 0
        · have hn : (nameOf (bl s)).length = k := by
            rw [HN.out, if_pos h0]
            subst h0
            have e := HD.out
            simp only [List.drop_zero] at e
            rw [e, name_cons, hl]; rfl
          have H := Lib.hid hn
          have hg : ((k : Int) == 0) = true := by rw [h0]; rfl
          have hg2 : (k == 0) = true := by rw [h0]; rfl
          clear hn h0
          go_wp2_with (go_at_call 96; refine (letter2_any _ _).mono ?_; rintro e w' ⟨rfl, rfl⟩)
          go_ret
          refine ⟨?_, rfl⟩
          rw [HNB.out, H.out, decide_eq_false (by omega), Bool.and_false]; rfl
        · have hg : ((k : Int) == 0) = false := by rw [beq_eq_false_iff_ne]; omega
          have hg2 : (k == 0) = false := by rw [beq_eq_false_iff_ne]; omega
          by_cases hd : isDigit s[k] = true
          · have H0 := Lib.hid h0
            clear h0
            go_wp2_with (first | (go_at_call 96; refine (letter2_any _ _).mono ?_; rintro e w' ⟨rfl, rfl⟩) | (go_at_call 97; refine (digit2_any _ _).mono ?_; rintro e w' ⟨rfl, rfl⟩))
            go_round
            case rel =>
              refine ⟨k + 1, by omega, by go_num, ?_⟩
              have hnm : isName s[k] = true := by unfold isName; rw [hd]; simp
              rw [HN.out, if_neg H0.out, if_neg (by omega), HD.out, List.takeWhile_cons_of_pos hnm]
              simp; omega
            case measure => simp [intOf]; omega
          · have hd : isDigit s[k] = false := by simpa using hd
            have hn : (nameOf (bl s)).length = k := by
              have hnm : ¬ isName s[k] = true := by unfold isName; rw [hd, hl]; simp
              rw [HN.out, if_neg h0, HD.out, List.takeWhile_cons_of_neg hnm]; simp
            have H := Lib.hid hn
            clear hn h0
            go_wp2_with (first | (go_at_call 96; refine (letter2_any _ _).mono ?_; rintro e w' ⟨rfl, rfl⟩) | (go_at_call 97; refine (digit2_any _ _).mono ?_; rintro e w' ⟨rfl, rfl⟩))
            go_ret
            refine ⟨?_, rfl⟩
            rw [HNB.out, H.out, decide_eq_false (by omega), Bool.and_false]; rfl
    · have hn : (nameOf (bl s)).length = s.size ∨ s.toList.isEmpty = true := by
        have e : (bl s).drop k = [] := List.drop_of_length_le (by rw [bl_length]; omega)
        by_cases h0 : k = 0
        · right
          subst h0
          rw [toList_eq]
          simp only [List.drop_zero] at e
          rw [e]; rfl
        · left
          rw [HN.out, if_neg h0, e]; simp; omega
      have hres : nameB (bl s) = !s.toList.isEmpty := by
        rw [HNB.out]
        rcases hn with h | h
        · rw [h]; simp
        · rw [h]; rfl
      have HR := Lib.hid hres
      clear hn hres
      go_wp2_with fail
      go_ret
      exact ⟨by rw [HR.out]; rfl, rfl⟩
end Go.Proofs.YtdhhkancbgealaaGreat
namespace Go.Proofs.YtdhhkancbgealaaGreat
open Go.RowKit
open Lx
set_option linter.unusedVariables false
set_option linter.unusedSimpArgs false
set_option maxRecDepth 100000
structure Cl (w : World) (B : Nat) (A : Option Addr) (xs : List Value) : Prop where
  ex : xs ≠ [] → ∃ b o, A = some ⟨b, o, none⟩ ∧ b < B ∧ ∀ (j : Nat) (u : Value), xs[j]? = some u → w.cell? ⟨b, o + j, none⟩ = some u
theorem Cl.nil (w : World) (B : Nat) (A : Option Addr) : Cl w B A [] := ⟨fun h => absurd rfl h⟩
theorem Cl.below {w w' : World} {B : Nat} {A : Option Addr} {xs : List Value} (h : Cl w B A xs) (hb : Below B w w') : Cl w' B A xs := ⟨fun hn => by
  obtain ⟨b, o, h1, h2, h3⟩ := h.ex hn
  exact ⟨b, o, h1, h2, fun j u hu => (hb.cell (p := ⟨b, _, none⟩) h2).trans (h3 j u hu)⟩⟩
theorem Cl.mono {w : World} {B B' : Nat} {A : Option Addr} {xs : List Value} (h : Cl w B A xs) (hB : B ≤ B') : Cl w B' A xs := ⟨fun hn => by
  obtain ⟨b, o, h1, h2, h3⟩ := h.ex hn
  exact ⟨b, o, h1, by omega, h3⟩⟩
theorem Lie.cl {w : World} {t : TypeId} {A : Option Addr} {xs : List Value} (h : Lie w t A xs) : Cl w w.heap.size A xs := ⟨fun hn => h.cell hn⟩
def NmC (w : World) (B : Nat) (v : Value) (l : List Rd.Name) : Prop := ∃ A cap, v = .slice A l.length cap ∧ Cl w B A (namesV l)
theorem NmC.below {w w' : World} {B : Nat} {v : Value} {l : List Rd.Name} (h : NmC w B v l) (hb : Below B w w') : NmC w' B v l := by
  obtain ⟨A, cap, h1, h2⟩ := h; exact ⟨A, cap, h1, h2.below hb⟩
theorem NmC.mono {w : World} {B B' : Nat} {v : Value} {l : List Rd.Name} (h : NmC w B v l) (hB : B ≤ B') : NmC w B' v l := by
  obtain ⟨A, cap, h1, h2⟩ := h; exact ⟨A, cap, h1, h2.mono hB⟩
theorem nameOf_same (n : List UInt8) : decide ((nameOf n).length = n.length) = (nameOf n == n) := by
  cases n with
  | nil => rfl
  | cons c t =>
    have e : nameOf (c :: t) = if isLetter c then (c :: t).takeWhile isName else [] := rfl
    rw [e]
    by_cases hc : isLetter c = true
    · rw [if_pos hc]
      by_cases h : (c :: t).takeWhile isName = c :: t
      · rw [h]; simp
      · have : ((c :: t).takeWhile isName).length ≠ (c :: t).length := fun hl => h ((List.takeWhile_prefix _).eq_of_length hl)
        rw [decide_eq_false this, beq_eq_false_iff_ne.2 h]
    · rw [if_neg hc]; rfl
theorem nameOk_eq (n : List UInt8) : Pr.nameOk n = (decide (n.length ≤ 32) && nameB n) := by
  unfold Pr.nameOk nameB
  rw [nameOf_same]
  congr 2
  cases n <;> rfl
end Go.Proofs.YtdhhkancbgealaaGreat
namespace Go.Proofs.YtdhhkancbgealaaGreat
open Go.RowKit
open Lx
set_option linter.unusedVariables false
set_option linter.unusedSimpArgs false
set_option maxRecDepth 100000
def levC (p : Rd.Lev × Value × Int) : List Value := [.int .i64 p.2.2, p.2.1]
def levsC (l : List (Rd.Lev × Value × Int)) : List Value := l.flatMap levC
theorem namesV_get {l : List Rd.Name} {k : Nat} {x : Rd.Name} (h : l[k]? = some x) : (namesV l)[k]? = some (.string (str x)) := by simp [namesV, h]
theorem all_take {α : Type} {p : α → Bool} {l : List α} {k : Nat} {x : α} (hx : l[k]? = some x) (h : ∀ y ∈ l.take k, p y = true) (hp : p x = true) : ∀ y ∈ l.take (k + 1), p y = true := by
  intro y hy
  rw [List.take_add_one, hx] at hy
  rcases List.mem_append.1 hy with h1 | h1
  · exact h y h1
  · simp at h1; subst h1; exact hp
end Go.Proofs.YtdhhkancbgealaaGreat
end
section
namespace Go.Proofs.YtdhhkancbgealaaGreat
open Go.RowKit
open Lx
set_option linter.unusedVariables false
set_option linter.unusedSimpArgs false
set_option maxRecDepth 100000
def SetN (w : World) (m : Nat) (l : List Rd.Name) : Prop := ∃ D : DataW Unit, w.ownsMap Tryz.prog 9 unitElem m l.length D ∧ (∀ s : Rd.Name, Maps.has D (.string s) = decide (s ∈ l)) ∧ Maps.size D ≤ l.length ∧ (Maps.size D = l.length ↔ l.Nodup)
theorem SetN.kept {w w' : World} {m : Nat} {l : List Rd.Name} {row : Option Nat} (h : SetN w m l) (hg : w.grownBy w' row) (hne : some m ≠ row) : SetN w' m l := by
  obtain ⟨D, h1, h2⟩ := h; exact ⟨D, h1.kept hg hne, h2⟩
end Go.Proofs.YtdhhkancbgealaaGreat
namespace Go.Proofs.YtdhhkancbgealaaGreat
open Go.RowKit
set_option linter.unusedVariables false
section
variable {P : Program} (w : World)
theorem run_append_none (base : Nat) (t ty e : TypeId) (i : TypeInfo) (size : Nat) (ht : P.underlying t = some (.slice e)) (hi : P.info? e = some i)
    (v : Value) (n : Nat) (xs : List Value) (hown : w.ownsRow base e size v n xs) (c : Nat) : (Builtin.append_ #[t, t] ty #[v, .slice none 0 c]).run P w = .ok v w := by
  rcases own_shape hown with ⟨rfl, _, _⟩ | ⟨g, cap, rfl, hnc, _⟩
  · simp [Builtin.append_, run_underlying ht, sizeOf, typeInfo, hi, Builtin.lenOf, Builtin.firstCells]
  · simp [Builtin.append_, run_underlying ht, sizeOf, typeInfo, hi, Builtin.lenOf, Builtin.firstCells, hnc, storeCells]
def Lies (w : World) (A : Option Addr) (news : List Value) : Prop := ∀ j u, news[j]? = some u → ∃ ad, A = some ad ∧ w.cell? (ad.add j) = some u
theorem run_append_own3 (base : Nat) (t ty e : TypeId) (i : TypeInfo) (z : Value) (size bytes : Nat) (ht : P.underlying t = some (.slice e)) (hi : P.info? e = some i) (hz : i.zero = some z)
    (hsize : i.size = size) (hby : i.bytes = bytes) (hzs : z.cells.size = size) (hsz : 0 < size)
    (v : Value) (n : Nat) (xs : List Value) (hown : w.ownsRow base e size v n xs)
    (A : Option Addr) (m c : Nat) (news : List Value) (hl : news.length = m * size) (hnews : Lies w A news) (h1 : ∀ u ∈ news, u.oneCell' = true)
    (h63 : n + m ≤ maxLen) (hbytes : (n + m) * bytes ≤ 140737488355328) (hbase : base ≤ w.heap.size) :
    ∃ v' w', (Builtin.append_ #[t, t] ty #[v, .slice A m c]).run P w = .ok v' w' ∧ w'.ownsRow base e size v' (n + m) (xs ++ news) ∧ w.grownBy w' v.ownBlock ∧ SameOrNew w v v' := by
  cases A with
  | some ad =>
    refine run_append_own2 (P := P) w base t ty e i z size bytes ht hi hz hsize hby hzs hsz v n xs hown ad m c news hl (fun j u hj => ?_) h1 h63 hbytes hbase
    obtain ⟨ad', he, hc⟩ := hnews j u hj
    injection he with he
    rw [he]; exact hc
  | none =>
    have hn : news = [] := by
      cases news with
      | nil => rfl
      | cons u l => obtain ⟨_, he, _⟩ := hnews 0 u rfl; cases he
    subst hn
    have hm : m = 0 := by
      rcases Nat.eq_zero_or_pos m with h | h
      · exact h
      · have := Nat.mul_pos h hsz; simp at hl; omega
    subst hm
    exact ⟨v, w, run_append_none w base t ty e i size ht hi v n xs hown c, by simpa using hown, grown_refl w _, SameOrNew.refl w v⟩
theorem wpList_append_own3 {ops : Array Oper} {rest : List Oper} {o : Oper} {a : Act} {Q : Exit → Act → World → Prop} (hgd : o.guard = none) (s x : Operand) (t : TypeId)
    (ho : o.op = .call { callee := .builtin .append, args := #[s, x], argTypes := #[t, t] })
    (base : Nat) (e : TypeId) (i : TypeInfo) (z : Value) (size bytes : Nat) (ht : P.underlying t = some (.slice e)) (hi : P.info? e = some i) (hz : i.zero = some z)
    (hsize : i.size = size) (hby : i.bytes = bytes) (hzs : z.cells.size = size) (hsz : 0 < size)
    (v : Value) (n : Nat) (xs : List Value) (hs : a.eval s = v) (hown : w.ownsRow base e size v n xs)
    (A : Option Addr) (m c : Nat) (news : List Value) (hx : a.eval x = .slice A m c) (hl : news.length = m * size) (hnews : Lies w A news) (h1 : ∀ u ∈ news, u.oneCell' = true)
    (h63 : n + m ≤ maxLen) (hbytes : (n + m) * bytes ≤ 140737488355328) (hbase : base ≤ w.heap.size)
    (h : ∀ v' w', w'.ownsRow base e size v' (n + m) (xs ++ news) → w.grownBy w' v.ownBlock → SameOrNew w v v' → wpList P ops Q rest (a.put o.dst v') w') : wpList P ops Q (o :: rest) a w := by
  refine wpList_plain hgd fun K hK => ?_
  obtain ⟨v', w', hr, h2, h3, h4⟩ := run_append_own3 (P := P) w base t o.type e i z size bytes ht hi hz hsize hby hzs hsz v n xs hown A m c news hl hnews h1 h63 hbytes hbase
  unfold Oper.wp execOp
  simp only [ho, resolve, invoke, builtin, Sem.run_bind, Sem.run_pure, Result.andThen_ok, List.map_toArray, List.map_cons, List.map_nil, hs, hx, hr]
  exact hK _ _ (h v' w' h2 h3 h4)
end
end Go.Proofs.YtdhhkancbgealaaGreat
namespace Go.Proofs.YtdhhkancbgealaaGreat
open Go.RowKit
open Lx
set_option linter.unusedVariables false
set_option linter.unusedSimpArgs false
set_option maxRecDepth 100000
def encA (a : Int) : Nat := if 1 ≤ a ∧ a ≤ 3 then a.toNat else 0
theorem encA_of {a : Int} (h : 1 ≤ encA a) : a = (encA a : Int) := by
  unfold encA at h ⊢
  split at h
  · rename_i h1; rw [if_pos h1]; omega
  · omega
theorem encA_nat {n : Nat} (h : 1 ≤ n ∧ n ≤ 3) : encA (n : Int) = n := by unfold encA; rw [if_pos (by omega)]; omega
structure GramC (w : World) (B : Nat) (v : Value) (G : Rd.G) : Prop where
  ex : ∃ A1 c1 A2 c2 A3 c3 A4 c4 pl ql, v = .agg #[.slice A1 G.toks.length c1, .slice A2 G.skips.length c2, .slice A3 G.levels.length c3, .string (str G.start), .slice A4 G.rules.length c4] ∧
    Cl w B A1 (toksV G.toks) ∧ Cl w B A2 (patsV G.skips) ∧ Cl w B A3 (levsC pl) ∧ pl.map (·.1) = G.levels ∧ (∀ p ∈ pl, p.1.assoc = encA p.2.2 ∧ NmC w B p.2.1 p.1.names) ∧
    Cl w B A4 (rulesV ql) ∧ ql.map (·.1) = G.rules ∧ ∀ p ∈ ql, NmC w B p.2 p.1.right
theorem GramC.below {w w' : World} {B : Nat} {v : Value} {G : Rd.G} (h : GramC w B v G) (hb : Below B w w') : GramC w' B v G := by
  obtain ⟨A1, c1, A2, c2, A3, c3, A4, c4, pl, ql, h0, h1, h2, h3, h4, h5, h6, h7, h8⟩ := h.ex
  exact ⟨A1, c1, A2, c2, A3, c3, A4, c4, pl, ql, h0, h1.below hb, h2.below hb, h3.below hb, h4, fun p hp => ⟨(h5 p hp).1, (h5 p hp).2.below hb⟩, h6.below hb, h7, fun p hp => (h8 p hp).below hb⟩
theorem GramC.mono {w : World} {B B' : Nat} {v : Value} {G : Rd.G} (h : GramC w B v G) (hB : B ≤ B') : GramC w B' v G := by
  obtain ⟨A1, c1, A2, c2, A3, c3, A4, c4, pl, ql, h0, h1, h2, h3, h4, h5, h6, h7, h8⟩ := h.ex
  exact ⟨A1, c1, A2, c2, A3, c3, A4, c4, pl, ql, h0, h1.mono hB, h2.mono hB, h3.mono hB, h4, fun p hp => ⟨(h5 p hp).1, (h5 p hp).2.mono hB⟩, h6.mono hB, h7, fun p hp => (h8 p hp).mono hB⟩
theorem Nms.nmC {w : World} {v : Value} {l : List Rd.Name} (h : Nms w v l) : NmC w w.heap.size v l := by
  obtain ⟨A, cap, h1, h2⟩ := h; exact ⟨A, cap, h1, h2.cl⟩
structure Sz (G : Rd.G) : Prop where
  n1 : G.toks.length ≤ 140737488355328
  n2 : G.skips.length ≤ 140737488355328
  n3 : G.levels.length ≤ 140737488355328
  n4 : G.rules.length ≤ 140737488355328
  tok : ∀ t ∈ G.toks, t.name.length ≤ 140737488355328 ∧ t.pat.text.length ≤ 140737488355328 ∧ t.pat.set.length ≤ 140737488355328
  skip : ∀ t ∈ G.skips, t.text.length ≤ 140737488355328 ∧ t.set.length ≤ 140737488355328
  lev : ∀ t ∈ G.levels, t.names.length ≤ 140737488355328 ∧ ∀ n ∈ t.names, n.length ≤ 140737488355328
  start : G.start.length ≤ 140737488355328
  rul : ∀ r ∈ G.rules, r.left.length ≤ 140737488355328 ∧ r.prec.length ≤ 140737488355328 ∧ r.action.length ≤ 140737488355328 ∧ r.right.length ≤ 140737488355328 ∧ ∀ n ∈ r.right, n.length ≤ 140737488355328
end Go.Proofs.YtdhhkancbgealaaGreat
namespace Go.Proofs.YtdhhkancbgealaaGreat
open Go.RowKit
open Lx
set_option linter.unusedVariables false
set_option linter.unusedSimpArgs false
set_option maxRecDepth 100000
namespace Pr
theorem act_mark (l acc : List UInt8) (o : Nat) {k n : Nat} {t : List UInt8} (h : Lx.act l acc o = .mark k t n) : k = 9 ∧ n = t.length + 2 ∧ t.length ≤ 200 := by
  induction l generalizing acc o with
  | nil => simp [Lx.act] at h
  | cons c l ih =>
    rw [Lx.act.eq_def] at h
    simp only [] at h
    split at h
    · split at h
      · cases h
      · exact ih _ _ h
    · split at h
      · split at h
        · split at h
          · cases h
          · cases h; exact ⟨rfl, rfl, by omega⟩
        · exact ih _ _ h
      · exact ih _ _ h
end Pr
end Go.Proofs.YtdhhkancbgealaaGreat
end
section
namespace Go.Proofs.YtdhhkancbgealaaGreat
open Go.RowKit
open Lx
set_option linter.unusedVariables false
set_option linter.unusedSimpArgs false
set_option maxRecDepth 100000
theorem empty_dec (l : List UInt8) : ((str l).toList == (⟨#[]⟩ : ByteArray).toList) = decide (l = []) := by
  rw [show (⟨#[]⟩ : ByteArray) = str [] from rfl, str_same]
  cases l <;> rfl
theorem cells_new2 (w : World) (ob : Obj) (cs : List Value) (t : TypeId) : ∀ j u, cs[j]? = some u → ((w.alloc ob).alloc (.cells cs.toArray t)).cell? ((⟨w.heap.size + 1, 0, none⟩ : Addr).add j) = some u := by
  have h := cells_new (w.alloc ob) cs t
  rw [show (w.alloc ob).heap.size = w.heap.size + 1 by simp] at h
  exact h
theorem isEmpty_dec (l : List UInt8) : (str l).toList.isEmpty = decide (l = []) := by
  rw [toList_eq, bl_str]; cases l <;> rfl
def fitsB (G : Rd.G) : Bool := decide (G.toks.length ≤ 20) && (decide (G.skips.length ≤ 4) && (decide (G.levels.length ≤ 10) && (decide (G.rules.length ≤ 40) && decide (0 < G.rules.length))))
end Go.Proofs.YtdhhkancbgealaaGreat
namespace Go.Proofs.YtdhhkancbgealaaGreat
open Go.RowKit
open Lx
set_option linter.unusedVariables false
set_option linter.unusedSimpArgs false
set_option maxRecDepth 100000
namespace Pr
open Rd (G)
def lvl (g : G) : List Rd.Name := g.levels.flatMap Rd.Lev.names
def rightC (g : G) : Bool := fitsB g && (nameOk g.start && (g.toks.all tokOk && (g.skips.all patOk && (g.levels.all levOk && g.rules.all ruleOk))))
def rightB (g : G) : Bool := rightC g && (decide (g.toks.map Rd.Tok.name).Nodup && decide (lvl g).Nodup)
theorem rightB_iff (g : G) : rightB g = true ↔ Right g := by
  unfold rightB rightC fitsB lvl
  simp only [Bool.and_eq_true, decide_eq_true_eq, List.all_eq_true]
  constructor
  · rintro ⟨⟨⟨h1, h2, h3, h4, h5⟩, h6, h7, h8, h9, h10⟩, h11, h12⟩
    exact ⟨h1, h2, h3, h4, List.length_pos_iff.1 h5, h6, h7, h8, h9, h10, h11, h12⟩
  · intro h
    exact ⟨⟨⟨h.ntok, h.nskip, h.nlev, h.nrule, List.length_pos_iff.2 h.rules⟩, h.start, h.toks, h.skips, h.levels, h.each⟩, h.tonce, h.lonce⟩
end Pr
end Go.Proofs.YtdhhkancbgealaaGreat
end
