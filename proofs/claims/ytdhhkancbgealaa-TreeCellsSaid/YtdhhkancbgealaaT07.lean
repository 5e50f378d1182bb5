import Derived.Test.YtdhhkancbgealaaT06
import Derived.Deep.RegionHeld3
import Derived.Test.YtdhhkancbgealaaT05
import Derived.Test.YtdhhkancbgealaaT01
section
namespace Go.Proofs.Ytdhhkancbgealaa
open Go.RowKit
open Lx
set_option linter.unusedVariables false
set_option linter.unusedSimpArgs false
set_option maxRecDepth 100000
def vals (l : List Int) : List Value := l.map (.int .i64 ·)
theorem vals_length (l : List Int) : (vals l).length = l.length := by simp [vals]
theorem vals_append (l m : List Int) : vals (l ++ m) = vals l ++ vals m := by simp [vals]
theorem vals_get {l : List Int} {k : Nat} {x : Int} (h : l[k]? = some x) : (vals l)[k]? = some (.int .i64 x) := by simp [vals, h]
def IntC (w : World) (B : Nat) (v : Value) (l : List Int) : Prop := ∃ A cap, v = .slice A l.length cap ∧ Cl w B A (vals l)
theorem IntC.below {w w' : World} {B : Nat} {v : Value} {l : List Int} (h : IntC w B v l) (hb : Below B w w') : IntC w' B v l := by
 obtain ⟨A, cap, h1, h2⟩ := h; exact ⟨A, cap, h1, h2.below hb⟩
theorem IntC.mono {w : World} {B B' : Nat} {v : Value} {l : List Int} (h : IntC w B v l) (hB : B ≤ B') : IntC w B' v l := by
 obtain ⟨A, cap, h1, h2⟩ := h; exact ⟨A, cap, h1, h2.mono hB⟩
def prodC (p : Nm.Prod × Value) : List Value := [.int .i64 p.1.left, p.2, .int .i64 p.1.level]
def prodsV (l : List (Nm.Prod × Value)) : List Value := l.flatMap prodC
theorem prodsV_append (l m : List (Nm.Prod × Value)) : prodsV (l ++ m) = prodsV l ++ prodsV m := by unfold prodsV; rw [List.flatMap_append]
theorem prodsV_length (l : List (Nm.Prod × Value)) : (prodsV l).length = l.length * 3 := by
 unfold prodsV
 induction l with
 | nil => rfl
 | cons a r ih => rw [List.flatMap_cons, List.length_append, ih, List.length_cons]; simp only [prodC, List.length_cons, List.length_nil]; omega
structure ProdsC (w : World) (B : Nat) (A : Option Addr) (L : List Nm.Prod) : Prop where
 ex : ∃ pl, Cl w B A (prodsV pl) ∧ pl.map (·.1) = L ∧ ∀ p ∈ pl, IntC w B p.2 p.1.right
theorem ProdsC.below {w w' : World} {B : Nat} {A : Option Addr} {L : List Nm.Prod} (h : ProdsC w B A L) (hb : Below B w w') : ProdsC w' B A L := by
 obtain ⟨pl, h1, h2, h3⟩ := h.ex
 exact ⟨pl, h1.below hb, h2, fun p hp => (h3 p hp).below hb⟩
theorem ProdsC.mono {w : World} {B B' : Nat} {A : Option Addr} {L : List Nm.Prod} (h : ProdsC w B A L) (hB : B ≤ B') : ProdsC w B' A L := by
 obtain ⟨pl, h1, h2, h3⟩ := h.ex
 exact ⟨pl, h1.mono hB, h2, fun p hp => (h3 p hp).mono hB⟩
theorem ProdsC.nil (w : World) (B : Nat) (A : Option Addr) : ProdsC w B A [] := ⟨[], Cl.nil _ _ _, rfl, fun p hp => by simp at hp⟩
theorem ProdsC.get {w : World} {B : Nat} {A : Option Addr} {L : List Nm.Prod} (h : ProdsC w B A L) {k : Nat} {x : Nm.Prod} (hk : L[k]? = some x) :
  ∃ b o A' c', A = some ⟨b, o, none⟩ ∧ b < B ∧ w.cell? ⟨b, o + k * 3, none⟩ = some (.int .i64 x.left) ∧ w.cell? ⟨b, o + k * 3 + 1, none⟩ = some (.slice A' x.right.length c') ∧ w.cell? ⟨b, o + k * 3 + 2, none⟩ = some (.int .i64 x.level) ∧ Cl w B A' (vals x.right) := by
 obtain ⟨pl, h1, h2, h3⟩ := h.ex
 have hk2 := hk
 rw [← h2, List.getElem?_map, Option.map_eq_some_iff] at hk2
 obtain ⟨p, hp, rfl⟩ := hk2
 obtain ⟨A', c', e, hc⟩ := h3 p (List.mem_of_getElem? hp)
 have hv := fun j u (hj : j < 3) (hu : (prodC p)[j]? = some u) => flat_get prodC 3 (fun _ => rfl) pl k j p u hp hj hu
 obtain ⟨b, o, rfl, hb, hcell⟩ := h1.ex (fun e => by
  have h : (prodsV pl)[k * 3 + 0]? = some (.int .i64 p.1.left) := hv 0 _ (by omega) rfl
  rw [e] at h; simp at h)
 refine ⟨b, o, A', c', rfl, hb, hcell _ _ (hv 0 _ (by omega) rfl), ?_, ?_, hc⟩
 ·rw [Nat.add_assoc, ← e]
  exact hcell _ _ (hv 1 _ (by omega) rfl)
 ·rw [Nat.add_assoc]
  exact hcell _ _ (hv 2 _ (by omega) rfl)
structure PlanC (w : World) (B : Nat) (v : Value) (P : Nm.Plan) : Prop where
 ex : ∃ A1 c1 A2 c2 A3 c3 A4 c4 A5 c5 A6 c6, v = .agg #[.slice A1 P.terms.length c1, .slice A2 P.vars.length c2, .slice A3 P.rules.length c3, .slice A4 P.levels.length c4, .slice A5 P.assocs.length c5, .slice A6 P.acts.length c6] ∧
  Cl w B A1 (namesV P.terms) ∧ Cl w B A2 (namesV P.vars) ∧ ProdsC w B A3 P.rules ∧ Cl w B A4 (vals P.levels) ∧ Cl w B A5 (vals P.assocs) ∧ Cl w B A6 (namesV P.acts)
theorem PlanC.below {w w' : World} {B : Nat} {v : Value} {P : Nm.Plan} (h : PlanC w B v P) (hb : Below B w w') : PlanC w' B v P := by
 obtain ⟨A1, c1, A2, c2, A3, c3, A4, c4, A5, c5, A6, c6, e, h1, h2, h3, h4, h5, h6⟩ := h.ex
 exact ⟨A1, c1, A2, c2, A3, c3, A4, c4, A5, c5, A6, c6, e, h1.below hb, h2.below hb, h3.below hb, h4.below hb, h5.below hb, h6.below hb⟩
theorem PlanC.mono {w : World} {B B' : Nat} {v : Value} {P : Nm.Plan} (h : PlanC w B v P) (hB : B ≤ B') : PlanC w B' v P := by
 obtain ⟨A1, c1, A2, c2, A3, c3, A4, c4, A5, c5, A6, c6, e, h1, h2, h3, h4, h5, h6⟩ := h.ex
 exact ⟨A1, c1, A2, c2, A3, c3, A4, c4, A5, c5, A6, c6, e, h1.mono hB, h2.mono hB, h3.mono hB, h4.mono hB, h5.mono hB, h6.mono hB⟩
theorem PlanC.sym {w : World} {B : Nat} {v : Value} {P : Nm.Plan} (h : PlanC w B v P) : SymC w B v P.terms P.vars := by
 obtain ⟨A1, c1, A2, c2, A3, c3, A4, c4, A5, c5, A6, c6, e, h1, h2, h3, h4, h5, h6⟩ := h.ex
 exact ⟨A1, c1, A2, c2, A3, _, c3, A4, _, c4, A5, _, c5, A6, _, c6, e, h1, h2⟩
theorem PlanC.empty (w : World) (B : Nat) : PlanC w B (.agg #[.slice none 0 0, .slice none 0 0, .slice none 0 0, .slice none 0 0, .slice none 0 0, .slice none 0 0]) Nm.empty :=
 ⟨none, 0, none, 0, none, 0, none, 0, none, 0, none, 0, rfl, Cl.nil _ _ _, Cl.nil _ _ _, ProdsC.nil _ _ _, Cl.nil _ _ _, Cl.nil _ _ _, Cl.nil _ _ _⟩
structure PSz (P : Nm.Plan) : Prop where
 t : P.terms.length ≤ 1000
 v : P.vars.length ≤ 1000
 r : P.rules.length ≤ 1000
 l : P.levels.length ≤ 1000
 a : P.assocs.length ≤ 1000
 c : P.acts.length ≤ 1000
 tn : ∀ n ∈ P.terms, n.length ≤ 32
 vn : ∀ n ∈ P.vars, n.length ≤ 32
 rr : ∀ x ∈ P.rules, x.right.length ≤ 1000
theorem PSz.empty : PSz Nm.empty := ⟨by decide, by decide, by decide, by decide, by decide, by decide, fun n hn => by simp [Nm.empty] at hn, fun n hn => by simp [Nm.empty] at hn, fun n hn => by simp [Nm.empty] at hn⟩
end Go.Proofs.Ytdhhkancbgealaa
end
section
namespace Go.Proofs.Ytdhhkancbgealaa
open Go.RowKit
open Lx
set_option linter.unusedVariables false
set_option linter.unusedSimpArgs false
set_option maxRecDepth 100000
theorem Try.sizePlan : (Try.prog.info? 38).map (·.size) = some 6 := by kernel_rfl
theorem At.six {w : World} {g : Nat} {t : TypeId} {a b c d e f : Value} (h : At w g t #[a, b, c, d, e, f]) (a' b' c' d' e' f' : Value) :
  At ((((((w.setCell ⟨g, 0, none⟩ a').setCell ⟨g, 1, none⟩ b').setCell ⟨g, 2, none⟩ c').setCell ⟨g, 3, none⟩ d').setCell ⟨g, 4, none⟩ e').setCell ⟨g, 5, none⟩ f') g t #[a', b', c', d', e', f'] := by
 have := (((((h.set 0 a').set 1 b').set 2 c').set 3 d').set 4 e').set 5 f'
 simpa using this
theorem grown_six (w : World) (g : Nat) (a' b' c' d' e' f' : Value) : w.grownBy ((((((w.setCell ⟨g, 0, none⟩ a').setCell ⟨g, 1, none⟩ b').setCell ⟨g, 2, none⟩ c').setCell ⟨g, 3, none⟩ d').setCell ⟨g, 4, none⟩ e').setCell ⟨g, 5, none⟩ f') (some g) :=
 grown_set (grown_set (grown_set (grown_set (grown_set (grown_set (grown_refl _ _) _ _) _ _) _ _) _ _) _ _) _ _
theorem GramC.parts {w : World} {B : Nat} {v : Value} {G : Rd.G} (h : GramC w B v G) : ∃ A1 c1 A2 c2 A3 c3 A4 c4 ql, v = .agg #[.slice A1 G.toks.length c1, .slice A2 G.skips.length c2, .slice A3 G.levels.length c3, .string (str G.start), .slice A4 G.rules.length c4] ∧
  Cl w B A1 (toksV G.toks) ∧ LevsC w B A3 G.levels ∧ Cl w B A4 (rulesV ql) ∧ ql.map (·.1) = G.rules ∧ ∀ p ∈ ql, NmC w B p.2 p.1.right := by
 obtain ⟨A1, c1, A2, c2, A3, c3, A4, c4, pl, ql, h0, h1, h2, h3, h4, h5, h6, h7, h8⟩ := h.ex
 exact ⟨A1, c1, A2, c2, A3, c3, A4, c4, ql, h0, h1, ⟨pl, h3, h4, fun p hp => (h5 p hp).2⟩, h6, h7, h8⟩
structure RulsC (w : World) (B : Nat) (A : Option Addr) (L : List Rd.Rule) : Prop where
 ex : ∃ ql, Cl w B A (rulesV ql) ∧ ql.map (·.1) = L ∧ ∀ p ∈ ql, NmC w B p.2 p.1.right
theorem RulsC.below {w w' : World} {B : Nat} {A : Option Addr} {L : List Rd.Rule} (h : RulsC w B A L) (hb : Below B w w') : RulsC w' B A L := by
 obtain ⟨pl, h1, h2, h3⟩ := h.ex
 exact ⟨pl, h1.below hb, h2, fun p hp => (h3 p hp).below hb⟩
theorem RulsC.get {w : World} {B : Nat} {A : Option Addr} {L : List Rd.Rule} (h : RulsC w B A L) {k : Nat} {x : Rd.Rule} (hk : L[k]? = some x) :
  ∃ b o A' c', A = some ⟨b, o, none⟩ ∧ b < B ∧ w.cell? ⟨b, o + k * 4, none⟩ = some (.string (str x.left)) ∧ w.cell? ⟨b, o + k * 4 + 1, none⟩ = some (.slice A' x.right.length c') ∧ w.cell? ⟨b, o + k * 4 + 2, none⟩ = some (.string (str x.prec)) ∧ w.cell? ⟨b, o + k * 4 + 3, none⟩ = some (.string (str x.action)) ∧ Cl w B A' (namesV x.right) := by
 obtain ⟨pl, h1, h2, h3⟩ := h.ex
 have hk2 := hk
 rw [← h2, List.getElem?_map, Option.map_eq_some_iff] at hk2
 obtain ⟨p, hp, rfl⟩ := hk2
 obtain ⟨A', c', e, hc⟩ := h3 p (List.mem_of_getElem? hp)
 have hv := fun j u (hj : j < 4) (hu : (ruleCells p)[j]? = some u) => flat_get ruleCells 4 (fun _ => rfl) pl k j p u hp hj hu
 obtain ⟨b, o, rfl, hb, hcell⟩ := h1.ex (fun e => by
  have h : (rulesV pl)[k * 4 + 0]? = some (.string (str p.1.left)) := hv 0 _ (by omega) rfl
  rw [e] at h; simp at h)
 refine ⟨b, o, A', c', rfl, hb, hcell _ _ (hv 0 _ (by omega) rfl), ?_, ?_, ?_, hc⟩
 ·rw [Nat.add_assoc, ← e]
  exact hcell _ _ (hv 1 _ (by omega) rfl)
 ·rw [Nat.add_assoc]
  exact hcell _ _ (hv 2 _ (by omega) rfl)
 ·rw [Nat.add_assoc]
  exact hcell _ _ (hv 3 _ (by omega) rfl)
theorem tok_get {w : World} {B : Nat} {A : Option Addr} {L : List Rd.Tok} (h : Cl w B A (toksV L)) {k : Nat} {x : Rd.Tok} (hk : L[k]? = some x) :
  ∃ b o, A = some ⟨b, o, none⟩ ∧ b < B ∧ w.cell? ⟨b, o + k * 4, none⟩ = some (.string (str x.name)) ∧ w.cell? ⟨b, o + k * 4 + 1, none⟩ = some (.string (str x.pat.text)) ∧ w.cell? ⟨b, o + k * 4 + 2, none⟩ = some (.string (str x.pat.set)) ∧ w.cell? ⟨b, o + k * 4 + 3, none⟩ = some (.bool x.pat.many) := by
 have hv := fun j u (hj : j < 4) (hu : x.cells[j]? = some u) => flat_get Rd.Tok.cells 4 (fun _ => rfl) L k j x u hk hj hu
 obtain ⟨b, o, rfl, hb, hcell⟩ := h.ex (fun e => by
  have h : (toksV L)[k * 4 + 0]? = some (.string (str x.name)) := hv 0 _ (by omega) rfl
  rw [e] at h; simp at h)
 exact ⟨b, o, rfl, hb, hcell _ _ (hv 0 _ (by omega) rfl), by rw [Nat.add_assoc]; exact hcell _ _ (hv 1 _ (by omega) rfl), by rw [Nat.add_assoc]; exact hcell _ _ (hv 2 _ (by omega) rfl), by rw [Nat.add_assoc]; exact hcell _ _ (hv 3 _ (by omega) rfl)⟩
end Go.Proofs.Ytdhhkancbgealaa
end
section
namespace Go.Proofs.Ytdhhkancbgealaa
namespace Nm
open Rd (Name Pat Tok Lev Rule G)
set_option linter.unusedVariables false
set_option linter.unusedSimpArgs false
theorem end_not {n : Name} (h : Pr.nameOk n = true) : n ≠ endN := by
 obtain ⟨_, c, t, rfl, hc, _⟩ := Pr.nameOk_ex h
 intro e
 unfold endN at e
 injection e with e1 _
 subst e1
 revert hc; decide
section
variable {g : G}
theorem tok_ok (h : Pr.Right g) : ∀ t ∈ g.toks, Pr.nameOk t.name = true := fun t ht => by
 have := h.toks t ht
 unfold Pr.tokOk at this
 simp only [Bool.and_eq_true] at this
 exact this.1
theorem rule_ok (h : Pr.Right g) : ∀ r ∈ g.rules, Pr.nameOk r.left = true ∧ r.right.length ≤ 8 ∧ (∀ n ∈ r.right, Pr.nameOk n = true) ∧ (r.prec = [] ∨ Pr.nameOk r.prec = true) ∧ Pr.actOk r.action = true := fun r hr => by
 have := h.each r hr
 unfold Pr.ruleOk at this
 simpa only [Bool.and_eq_true, Bool.or_eq_true, decide_eq_true_eq, beq_iff_eq, List.all_eq_true] using this
theorem lev_ok (h : Pr.Right g) : ∀ v ∈ g.levels, 1 ≤ v.assoc ∧ v.assoc ≤ 3 ∧ v.names ≠ [] ∧ ∀ n ∈ v.names, Pr.nameOk n = true := fun v hv => by
 have := h.levels v hv
 unfold Pr.levOk at this
 simp only [Bool.and_eq_true, decide_eq_true_eq, bne_iff_ne, List.all_eq_true] at this
 exact ⟨this.1.1, this.1.2, this.2.1, this.2.2⟩
theorem left_mem {r : Rule} (hr : r ∈ g.rules) : r.left ∈ vars g := by
 unfold vars; rw [varsOf_mem]; exact List.mem_map.2 ⟨r, hr, rfl⟩
theorem level_end (h : Pr.Right g) : level g endN = 0 := by
 unfold level
 rw [find_none]
 ·rfl
 ·intro v hv
  unfold hasN
  rw [decide_eq_false_iff_not]
  intro hn
  exact end_not ((lev_ok h v hv).2.2.2 _ hn) rfl
structure Fine (g : G) : Prop where
 right : Pr.Right g
 apart : ∀ t ∈ g.toks, t.name ∉ vars g
 rules : ∀ r ∈ g.rules, (∀ n ∈ r.right, 0 ≤ symG g n) ∧ (r.prec = [] ∨ level g r.prec ≠ 0)
 start : g.start ∈ vars g
end
section
variable {T V : List Name}
end
section
variable {g : G}
end
end Nm
end Go.Proofs.Ytdhhkancbgealaa
end
section
namespace Go.Proofs.Ytdhhkancbgealaa
open Go.RowKit
open Lx
set_option linter.unusedVariables false
set_option linter.unusedSimpArgs false
set_option maxRecDepth 100000
theorem infoInts : (Try.prog.info? 3).map (fun i => (i.zero, i.size, i.bytes)) = some (some (.int .i64 0), 1, 8) := by kernel_rfl
structure LevsA (w : World) (B : Nat) (A : Option Addr) (L : List Rd.Lev) : Prop where
 ex : ∃ pl, Cl w B A (levsC pl) ∧ pl.map (·.1) = L ∧ (∀ p ∈ pl, NmC w B p.2.1 p.1.names) ∧ ∀ p ∈ pl, p.2.2 = (p.1.assoc : Int)
theorem LevsA.below {w w' : World} {B : Nat} {A : Option Addr} {L : List Rd.Lev} (h : LevsA w B A L) (hb : Below B w w') : LevsA w' B A L := by
 obtain ⟨pl, h1, h2, h3, h4⟩ := h.ex
 exact ⟨pl, h1.below hb, h2, fun p hp => (h3 p hp).below hb, h4⟩
theorem LevsA.get {w : World} {B : Nat} {A : Option Addr} {L : List Rd.Lev} (h : LevsA w B A L) {k : Nat} {v : Rd.Lev} (hk : L[k]? = some v) :
  ∃ b o A' c', A = some ⟨b, o, none⟩ ∧ b < B ∧ w.cell? ⟨b, o + k * 2, none⟩ = some (.int .i64 (v.assoc : Int)) ∧ w.cell? ⟨b, o + k * 2 + 1, none⟩ = some (.slice A' v.names.length c') ∧ Cl w B A' (namesV v.names) := by
 obtain ⟨pl, h1, h2, h3, h5⟩ := h.ex
 have hk2 := hk
 rw [← h2, List.getElem?_map, Option.map_eq_some_iff] at hk2
 obtain ⟨p, hp, rfl⟩ := hk2
 obtain ⟨A', c', e, hc⟩ := h3 p (List.mem_of_getElem? hp)
 have hv := fun j u (hj : j < 2) (hu : (levC p)[j]? = some u) => flat_get levC 2 (fun _ => rfl) pl k j p u hp hj hu
 obtain ⟨b, o, rfl, hb, hcell⟩ := h1.ex (fun e => by
  have h : (levsC pl)[k * 2 + 0]? = some (.int .i64 p.2.2) := hv 0 _ (by omega) rfl
  rw [e] at h; simp at h)
 refine ⟨b, o, A', c', rfl, hb, ?_, ?_, hc⟩
 ·rw [← h5 p (List.mem_of_getElem? hp)]
  exact hcell _ _ (hv 0 _ (by omega) rfl)
 ·rw [Nat.add_assoc, ← e]
  exact hcell _ _ (hv 1 _ (by omega) rfl)
theorem GramC.levsA {w : World} {B : Nat} {v : Value} {G : Rd.G} (h : GramC w B v G) (ha : ∀ x ∈ G.levels, 1 ≤ x.assoc) : ∃ A1 n1 c1 A2 n2 c2 A3 c3 st A4 n4 c4, v = .agg #[.slice A1 n1 c1, .slice A2 n2 c2, .slice A3 G.levels.length c3, .string st, .slice A4 n4 c4] ∧ LevsA w B A3 G.levels := by
 obtain ⟨A1, c1, A2, c2, A3, c3, A4, c4, pl, ql, h0, h1, h2, h3, h4, h5, h6, h7, h8⟩ := h.ex
 refine ⟨_, _, _, _, _, _, A3, c3, _, _, _, _, h0, pl, h3, h4, fun p hp => (h5 p hp).2, fun p hp => ?_⟩
 have h9 := ha p.1 (by rw [← h4]; exact List.mem_map.2 ⟨p, hp, rfl⟩)
 rw [(h5 p hp).1] at h9
 rw [(h5 p hp).1]
 exact encA_of h9
end Go.Proofs.Ytdhhkancbgealaa
end
section
namespace Go.Proofs.Ytdhhkancbgealaa
open Go.RowKit
set_option linter.unusedVariables false
structure Spares (ts : List TypeId) (w w' : World) : Prop where
 size : w.heap.size ≤ w'.heap.size
 block : ∀ (k : Nat) (cs : Array Value) (t : TypeId), t ∉ ts → w.heap[k]? = some (.cells cs t (0, 0)) → w'.heap[k]? = some (.cells cs t (0, 0))
section
variable {ts ts' : List TypeId} {a w w' : World}
theorem Spares.refl (ts : List TypeId) (w : World) : Spares ts w w := ⟨Nat.le_refl _, fun _ _ _ _ h => h⟩
theorem Spares.trans (h : Spares ts a w) (k : Spares ts w w') : Spares ts a w' := ⟨Nat.le_trans h.size k.size, fun i cs t ht hi => k.block i cs t ht (h.block i cs t ht hi)⟩
theorem Spares.mono (h : Spares ts a w) (hs : ∀ t ∈ ts, t ∈ ts') : Spares ts' a w := ⟨h.size, fun i cs t ht hi => h.block i cs t (fun hm => ht (hs t hm)) hi⟩
theorem Keeps.spares {S : List Nat} (h : Keeps S w w') (hS : ∀ k ∈ S, ∀ (cs : Array Value) (t : TypeId), w.heap[k]? = some (.cells cs t (0, 0)) → t ∈ ts) : Spares ts w w' :=
 ⟨h.size, fun k cs t ht hk => by
  by_cases hm : k ∈ S
  ·exact absurd (hS k hm cs t hk) ht
  ·rw [h.block k (Array.getElem?_eq_some_iff.1 hk).1 hm]; exact hk⟩
theorem Spares.drewN (h : Spares ts a w) (n : Nat) : Spares ts a (w.drewN n) := ⟨h.size, h.block⟩
theorem Spares.alloc (h : Spares ts a w) (o : Obj) : Spares ts a (w.alloc o) :=
 ⟨Nat.le_trans h.size (by simp), fun k cs t ht hk => by
  have := h.block k cs t ht hk
  rw [Below.heap_alloc w o k (Array.getElem?_eq_some_iff.1 this).1]; exact this⟩
theorem At.spares {g : Nat} {t : TypeId} {cs : Array Value} (h : At w g t cs) (hs : Spares ts w w') (ht : t ∉ ts) : At w' g t cs := hs.block g cs t ht h
theorem At.type {g : Nat} {t t' : TypeId} {cs cs' : Array Value} (h : At w g t cs) (h' : w.heap[g]? = some (.cells cs' t' (0, 0))) : t' = t := by
 unfold At at h
 rw [h] at h'
 simp at h'
 exact h'.2.symm
theorem own_type {B e size n g : Nat} {t : TypeId} {cs : Array Value} {v : Value} {xs : List Value} (h : w.ownsRow B e size v n xs) (hg : v.ownBlock = some g) (ha : w.heap[g]? = some (.cells cs t (0, 0))) : t = e := by
 rcases h.2 with ⟨rfl, _⟩ | ⟨g', cap, cur, rfl, _, hgg, _⟩
 ·simp [Value.ownBlock] at hg
 ·simp [Value.ownBlock] at hg
  subst hg
  rw [hgg] at ha
  simp at ha
  exact ha.2.symm
theorem own_spares {B e size n : Nat} {v : Value} {xs : List Value} (h : w.ownsRow B e size v n xs) (hs : Spares ts w w') (he : e ∉ ts) : w'.ownsRow B e size v n xs := by
 refine ⟨h.1, ?_⟩
 rcases h.2 with hn | ⟨g, cap, cur, rfl, hb, hgg, rest⟩
 ·exact .inl hn
 ·exact .inr ⟨g, cap, cur, rfl, hb, hs.block g cur e he hgg, rest⟩
end
end Go.Proofs.Ytdhhkancbgealaa
end
