/-
  The walk of ReaderInside.
  The walk of ReaderJoins.
-/
import Derived.Test.YtpgmapjjjpcmfaaGreatDoorRdAE
import Derived.Deep.RegionHeld3
import Derived.Test.YtpgmapjjjpcmfaaGreatDoorRdAG
namespace Go.Proofs.YtpgmapjjjpcmfaaGreatDoor
open Go.RowKit
open Lx
set_option linter.unusedVariables false
set_option linter.unusedSimpArgs false
set_option maxRecDepth 100000


/-- Is one of the places below k the place P? -/
def There (l : List UInt8) (P : Nat × Nat) (k : Nat) (b : Bool) : Prop := b = true ↔ ∃ j, j < k ∧ pos l j = P

theorem nodup_ne {α : Type} {l : List α} (h : l.Nodup) {i j : Nat} {x y : α} (hi : l[i]? = some x) (hj : l[j]? = some y) (hij : i ≠ j) : x ≠ y := by
  rintro rfl
  obtain ⟨h1, h2⟩ := List.getElem?_eq_some_iff.1 hi
  obtain ⟨h3, h4⟩ := List.getElem?_eq_some_iff.1 hj
  exact hij ((List.getElem_inj h).1 (h2.trans h4.symm))
theorem str_ne {a b : List UInt8} (h : a ≠ b) : ((str a).toList == (str b).toList) = false := by
  rw [str_same]; simpa using h
def allNames (ls : List Rd.Lev) (k : Nat) : List Rd.Name := (ls.take k).flatMap Rd.Lev.names
theorem allNames_succ {ls : List Rd.Lev} {k : Nat} {x : Rd.Lev} (h : ls[k]? = some x) : allNames ls (k + 1) = allNames ls k ++ x.names := by
  unfold allNames
  rw [List.take_add_one, h]; simp
theorem allNames_le (ls : List Rd.Lev) (k : Nat) : (allNames ls k).length ≤ (ls.flatMap Rd.Lev.names).length := by
  have h : (ls.flatMap Rd.Lev.names).length = (allNames ls k).length + ((ls.drop k).flatMap Rd.Lev.names).length := by
    unfold allNames
    rw [← List.length_append, ← List.flatMap_append, List.take_append_drop]
  omega
theorem allNames_all (ls : List Rd.Lev) : allNames ls ls.length = ls.flatMap Rd.Lev.names := by unfold allNames; rw [List.take_length]


end Go.Proofs.YtpgmapjjjpcmfaaGreatDoor

namespace Go.Proofs.YtpgmapjjjpcmfaaGreatDoor
open Go.RowKit
open Lx
set_option linter.unusedVariables false
set_option linter.unusedSimpArgs false
set_option maxRecDepth 100000

theorem own_empty (w : World) (e : TypeId) (size : Nat) : (w.alloc (.cells #[] e)).ownsRow w.heap.size e size (.slice (some ⟨w.heap.size, 0, none⟩) 0 0) 0 [] :=
  ⟨(Nat.zero_mul size).symm, .inr ⟨w.heap.size, 0, #[], rfl, Nat.le_refl _, At.new w e #[], Nat.le_refl _, by unfold maxLen; omega, (Nat.zero_mul size).symm, by simp⟩⟩
/-- append onto a row of one's own, as one step of a region that draws, be it guarded. -/
theorem step_append_own3 {P : Program} {ops : Array Oper} {o : Oper} {a : Act} {w : World} {K : Act → World → Prop} {Q : Exit → Act → World → Prop} {E : Prop}
    (hw : Region.wanted o (yielded ops a.tmps) = true) (s x : Operand) (t : TypeId) (hop : o.op = Op.call { callee := Callee.builtin Builtin.append, args := #[s, x], argTypes := #[t, t] })
    (base : Nat) (e : TypeId) (i : TypeInfo) (z : Value) (size bytes : Nat) (h1 : P.underlying t = some (.slice e)) (h2 : P.info? e = some i) (h3 : i.zero = some z) (h4 : i.size = size) (h5 : i.bytes = bytes) (h6 : z.cells.size = size) (h7 : 0 < size)
    (v : Value) (n : Nat) (xs : List Value) (hs : a.eval s = v) (hown : w.ownsRow base e size v n xs)
    (ad : Addr) (m c : Nat) (news : List Value) (hx : a.eval x = .slice (some ad) m c) (hn : news.length = m * size) (hc : ∀ j u, news[j]? = some u → w.cell? (ad.add j) = some u) (h1c : ∀ u ∈ news, u.oneCell' = true)
    (b1 : n + m ≤ maxLen) (b2 : (n + m) * bytes ≤ 140737488355328) (b3 : base ≤ w.heap.size)
    (hK : ∀ v' w', w'.ownsRow base e size v' (n + m) (xs ++ news) → w.grownBy w' v.ownBlock → SameOrNew w v v' → K (a.put o.dst v') w') :
    if Region.wanted o (yielded ops a.tmps) = true then Oper.wp P o a w K Q else E := by
  rw [if_pos hw]
  obtain ⟨v', w', hr, r1, r2, r3⟩ := run_append_own2 (P := P) w base t o.type e i z size bytes h1 h2 h3 h4 h5 h6 h7 v n xs hown ad m c news hn hc h1c b1 b2 b3
  unfold Oper.wp
  simp [execOp, hop, resolve, invoke, builtin, hs, hx, hr, Result.andThen]
  exact hK _ _ r1 r2 r3
theorem rulesV_length (ql : List (Rd.Rule × Value)) : (rulesV ql).length = ql.length * 4 := by
  induction ql with
  | nil => rfl
  | cons p r ih => simp [rulesV, ruleCells] at ih ⊢; omega
theorem rulesV_append (a b : List (Rd.Rule × Value)) : rulesV (a ++ b) = rulesV a ++ rulesV b := by simp [rulesV]
theorem rulesV_one (ql : List (Rd.Rule × Value)) (hp : ∀ p ∈ ql, ∃ A n c, p.2 = .slice A n c) : ∀ u ∈ rulesV ql, u.oneCell' = true := by
  intro u hu
  simp only [rulesV, List.mem_flatMap, ruleCells] at hu
  obtain ⟨p, h1, h2⟩ := hu
  obtain ⟨A, n, c, h3⟩ := hp p h1
  rw [h3] at h2
  simp at h2
  rcases h2 with rfl | rfl | rfl | rfl <;> rfl

theorem GramIs.rules {w : World} {st : ByteArray} {left : Rd.Name} {rs : List Rd.Rule} {A : Option Addr} {cap n : Nat} {ql : List (Rd.Rule × Value)} (h1 : str left = st) (h2 : n = rs.length) (h3 : ql.map (·.1) = rs) (h4 : Lie w 36 A (rulesV ql)) (h5 : ∀ p ∈ ql, Nms w p.2 p.1.right) :
    GramIs w (.agg #[.slice none 0 0, .slice none 0 0, .slice none 0 0, .string st, .slice A n cap]) ⟨[], [], [], left, rs⟩ := by
  subst h1 h2
  exact ⟨_, _, _, _, rfl, ⟨none, 0, rfl, Lie.nil _ _ _⟩, ⟨none, 0, rfl, Lie.nil _ _ _⟩, ⟨none, 0, [], rfl, rfl, Lie.nil _ _ _, by simp⟩, ⟨A, cap, ql, rfl, h3, h4, h5⟩⟩

theorem join_text (a b : ByteArray) (ha : a.size ≤ 300) (hb : b.size ≤ 300) : ((⟨#[37, 37]⟩ : ByteArray) ++ a ++ ⟨#[10]⟩ ++ b).size ≤ 9223372036854775807 ∧ bl ((⟨#[37, 37]⟩ : ByteArray) ++ a ++ ⟨#[10]⟩ ++ b) = 37 :: 37 :: (bl a ++ 10 :: bl b) := by
  have e37 : bl ⟨#[37, 37]⟩ = [37, 37] := rfl
  have e10 : bl ⟨#[10]⟩ = [10] := rfl
  have hZ : bl ((⟨#[37, 37]⟩ : ByteArray) ++ a ++ ⟨#[10]⟩ ++ b) = 37 :: 37 :: (bl a ++ 10 :: bl b) := by
    rw [bl_append, bl_append, bl_append, e37, e10, List.append_assoc, List.append_assoc, List.cons_append, List.cons_append, List.nil_append, List.cons_append, List.nil_append]
  refine ⟨?_, hZ⟩
  rw [← bl_length, hZ]
  have h1 := bl_length a
  have h2 := bl_length b
  simp only [List.length_cons, List.length_append]
  omega


end Go.Proofs.YtpgmapjjjpcmfaaGreatDoor
