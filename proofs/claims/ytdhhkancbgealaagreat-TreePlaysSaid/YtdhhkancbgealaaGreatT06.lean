import Derived.Test.YtdhhkancbgealaaGreatT05
import Derived.BigQuiet
import Derived.Deep.QuietTactic
section
namespace Go.Proofs.YtdhhkancbgealaaGreat
namespace Nm
open Rd (Name Pat Tok Lev Rule G)
set_option linter.unusedVariables false
set_option linter.unusedSimpArgs false
def find {α : Type} (p : α → Bool) : List α → Int
  | [] => -1
  | a :: r => if p a = true then 0 else if find p r < 0 then -1 else find p r + 1
section
variable {α : Type} {p : α → Bool}
theorem find_hit : ∀ {l : List α} {k : Nat} {x : α}, l[k]? = some x → p x = true → (∀ y ∈ l.take k, p y = false) → find p l = (k : Int)
  | [], k, x, h, _, _ => by simp at h
  | a :: r, 0, x, h, hp, _ => by simp at h; subst h; simp [find, hp]
  | a :: r, k + 1, x, h, hp, hn => by
    have h1 : p a = false := hn a (by simp)
    have h2 := find_hit (l := r) (k := k) (by simpa using h) hp (fun y hy => hn y (by simp [hy]))
    rw [find, if_neg (by simp [h1]), h2, if_neg (by omega)]; omega
theorem find_none : ∀ {l : List α}, (∀ y ∈ l, p y = false) → find p l = -1
  | [], _ => rfl
  | a :: r, h => by rw [find, if_neg (by simp [h a (by simp)]), find_none (fun y hy => h y (by simp [hy])), if_pos (by omega)]
theorem find_range : ∀ (l : List α), (find p l = -1 ∧ ∀ y ∈ l, p y = false) ∨ ∃ k x, find p l = ((k : Nat) : Int) ∧ l[k]? = some x ∧ p x = true ∧ ∀ y ∈ l.take k, p y = false
  | [] => .inl ⟨rfl, by simp⟩
  | a :: r => by
    by_cases ha : p a = true
    · exact .inr ⟨0, a, by simp [find, ha], rfl, ha, by simp⟩
    · have ha' : p a = false := by simpa using ha
      rcases find_range r with ⟨h1, h2⟩ | ⟨k, x, h1, h2, h3, h4⟩
      · refine .inl ⟨by rw [find, if_neg ha, if_pos (by omega)], fun y hy => ?_⟩
        rcases List.mem_cons.1 hy with rfl | hy
        · exact ha'
        · exact h2 y hy
      · refine .inr ⟨k + 1, x, by rw [find, if_neg ha, if_neg (by omega), h1]; omega, by simpa using h2, h3, fun y hy => ?_⟩
        rw [List.take_succ_cons] at hy
        rcases List.mem_cons.1 hy with rfl | hy
        · exact ha'
        · exact h4 y hy
theorem find_lt (l : List α) : find p l < (l.length : Int) := by
  rcases find_range (p := p) l with ⟨h, _⟩ | ⟨k, x, h, h2, _⟩
  · omega
  · have := (List.getElem?_eq_some_iff.1 h2).1; omega
theorem find_ge (l : List α) : -1 ≤ find p l := by
  rcases find_range (p := p) l with ⟨h, _⟩ | ⟨k, x, h, _⟩ <;> omega
theorem find_neg {l : List α} : find p l < 0 ↔ ∀ y ∈ l, p y = false := by
  constructor
  · intro h
    rcases find_range (p := p) l with ⟨_, h2⟩ | ⟨k, x, h1, _⟩
    · exact h2
    · omega
  · intro h; rw [find_none h]; omega
end
structure Prod where
  left : Int
  right : List Int
  level : Int
deriving DecidableEq
structure Plan where
  terms : List Name
  vars : List Name
  rules : List Prod
  levels : List Int
  assocs : List Int
  acts : List Name
deriving DecidableEq
def empty : Plan := ⟨[], [], [], [], [], []⟩
def endN : Name := [36, 101, 110, 100]
def accN : Name := [36, 97, 99, 99, 101, 112, 116]
def isN (n : Name) (m : Name) : Bool := m == n
def place (l : List Name) (n : Name) : Int := find (isN n) l
def sym (T V : List Name) (n : Name) : Int := if 0 ≤ place T n then place T n else if 0 ≤ place V n then (T.length : Int) + place V n else -1
def nameAt (T V : List Name) (i : Int) : Name :=
  if i < 0 ∨ (T.length : Int) + (V.length : Int) < i then [] else if i = (T.length : Int) + (V.length : Int) then accN else if i < (T.length : Int) then T.getD i.toNat [] else V.getD (i - (T.length : Int)).toNat []
def hasN (n : Name) (v : Lev) : Bool := decide (n ∈ v.names)
def level (g : G) (n : Name) : Int := 1 + find (hasN n) g.levels
def terms (g : G) : List Name := endN :: g.toks.map Tok.name
def addN (a : List Name) (n : Name) : List Name := if n ∈ a then a else a ++ [n]
def varsOf (l : List Name) : List Name := l.foldl addN []
def vars (g : G) : List Name := varsOf (g.rules.map Rule.left)
def symG (g : G) (n : Name) : Int := sym (terms g) (vars g) n
def lastL (L : List Int) (right : List Int) : Int := right.foldl (fun a s => if 0 ≤ s ∧ s < (L.length : Int) then L.getD s.toNat 0 else a) 0
def levelsG (g : G) : List Int := (terms g).map (level g)
def prod (g : G) (r : Rule) : Prod := ⟨symG g r.left, r.right.map (symG g), if r.prec = [] then lastL (levelsG g) (r.right.map (symG g)) else level g r.prec⟩
def acceptG (g : G) : Int := ((terms g).length : Int) + ((vars g).length : Int)
def plan (g : G) : Plan := ⟨terms g, vars g, ⟨acceptG g, [symG g g.start], 0⟩ :: g.rules.map (prod g), levelsG g, 0 :: g.levels.map (fun v => (v.assoc : Int)), [] :: g.rules.map Rule.action⟩
def wrongTok (g : G) (t : Tok) : Bool := decide (0 ≤ place (vars g) t.name)
def wrongName (g : G) (n : Name) : Bool := decide (symG g n < 0)
def wrongRule (g : G) (r : Rule) : Option (Nat × Name) :=
  match r.right.find? (wrongName g) with
  | some n => some (16, n)
  | none => if r.prec ≠ [] ∧ level g r.prec = 0 then some (16, r.prec) else none
def wrong (g : G) : Nat × Name :=
  match g.toks.find? (wrongTok g) with
  | some t => (15, t.name)
  | none => match g.rules.findSome? (wrongRule g) with
    | some x => x
    | none => if 0 ≤ place (vars g) g.start then (0, []) else (16, g.start)
def ofG (g : G) : Plan × Nat × Name :=
  if Pr.rightB g = true then (if (wrong g).1 = 0 then (plan g, 0, []) else (empty, (wrong g).1, (wrong g).2)) else (empty, 1, [])
theorem varsOf_snoc (l : List Name) (n : Name) : varsOf (l ++ [n]) = addN (varsOf l) n := by unfold varsOf; rw [List.foldl_append]; rfl
theorem place_neg {l : List Name} {n : Name} : place l n < 0 ↔ n ∉ l := by
  unfold place
  rw [find_neg]
  constructor
  · intro h hn; have := h n hn; simp [isN] at this
  · intro h y hy; unfold isN; rw [beq_eq_false_iff_ne]; intro e; subst e; exact h hy
theorem place_ge {l : List Name} {n : Name} : 0 ≤ place l n ↔ n ∈ l := by
  constructor
  · intro h
    by_cases hn : n ∈ l
    · exact hn
    · have := place_neg.2 hn; omega
  · intro h
    by_cases h0 : 0 ≤ place l n
    · exact h0
    · exact absurd h (place_neg.1 (by omega))
theorem addN_mem {a : List Name} {n m : Name} : m ∈ addN a n ↔ m ∈ a ∨ m = n := by
  unfold addN
  split
  · rename_i h
    constructor
    · exact .inl
    · rintro (h1 | rfl)
      · exact h1
      · exact h
  · simp
theorem fold_mem (l : List Name) : ∀ (a : List Name) (m : Name), m ∈ l.foldl addN a ↔ m ∈ a ∨ m ∈ l := by
  induction l with
  | nil => intro a m; simp
  | cons n r ih =>
    intro a m
    rw [List.foldl_cons, ih, addN_mem, List.mem_cons]
    constructor
    · rintro ((h | h) | h)
      · exact .inl h
      · exact .inr (.inl h)
      · exact .inr (.inr h)
    · rintro (h | h | h)
      · exact .inl (.inl h)
      · exact .inl (.inr h)
      · exact .inr h
theorem varsOf_mem {l : List Name} {m : Name} : m ∈ varsOf l ↔ m ∈ l := by unfold varsOf; rw [fold_mem]; simp
end Nm
end Go.Proofs.YtdhhkancbgealaaGreat
end
section
namespace Go.Proofs.YtdhhkancbgealaaGreat
open Go.RowKit
open Lx
set_option linter.unusedVariables false
set_option linter.unusedSimpArgs false
set_option maxRecDepth 100000
theorem none_take {α : Type} {p : α → Bool} {l : List α} {k : Nat} {x : α} (hx : l[k]? = some x) (h : ∀ y ∈ l.take k, p y = false) (hp : p x = false) : ∀ y ∈ l.take (k + 1), p y = false := by
  intro y hy
  rw [List.take_add_one, hx] at hy
  rcases List.mem_append.1 hy with h1 | h1
  · exact h y h1
  · simp at h1; subst h1; exact hp
theorem none_all {α : Type} {p : α → Bool} {l : List α} {n : Nat} (hn : l.length = n) (h : ∀ y ∈ l.take n, p y = false) : ∀ y ∈ l, p y = false := by
  rw [← hn, List.take_length] at h; exact h
theorem hasN_place (n : Rd.Name) (v : Rd.Lev) : decide (0 ≤ Nm.place v.names n) = Nm.hasN n v := by
  unfold Nm.hasN
  by_cases h : n ∈ v.names
  · rw [decide_eq_true h, decide_eq_true (Nm.place_ge.2 h)]
  · rw [decide_eq_false h, decide_eq_false (fun h1 => h (Nm.place_ge.1 h1))]
structure LevsC (w : World) (B : Nat) (A : Option Addr) (L : List Rd.Lev) : Prop where
  ex : ∃ pl, Cl w B A (levsC pl) ∧ pl.map (·.1) = L ∧ ∀ p ∈ pl, NmC w B p.2.1 p.1.names
theorem LevsC.below {w w' : World} {B : Nat} {A : Option Addr} {L : List Rd.Lev} (h : LevsC w B A L) (hb : Below B w w') : LevsC w' B A L := by
  obtain ⟨pl, h1, h2, h3⟩ := h.ex
  exact ⟨pl, h1.below hb, h2, fun p hp => (h3 p hp).below hb⟩
theorem LevsC.get {w : World} {B : Nat} {A : Option Addr} {L : List Rd.Lev} (h : LevsC w B A L) {k : Nat} {v : Rd.Lev} (hk : L[k]? = some v) :
    ∃ b o a A' c', A = some ⟨b, o, none⟩ ∧ b < B ∧ w.cell? ⟨b, o + k * 2, none⟩ = some (.int .i64 a) ∧ w.cell? ⟨b, o + k * 2 + 1, none⟩ = some (.slice A' v.names.length c') ∧ Cl w B A' (namesV v.names) := by
  obtain ⟨pl, h1, h2, h3⟩ := h.ex
  have hk2 := hk
  rw [← h2, List.getElem?_map, Option.map_eq_some_iff] at hk2
  obtain ⟨p, hp, rfl⟩ := hk2
  obtain ⟨A', c', e, hc⟩ := h3 p (List.mem_of_getElem? hp)
  have hv := fun j u (hj : j < 2) (hu : (levC p)[j]? = some u) => flat_get levC 2 (fun _ => rfl) pl k j p u hp hj hu
  obtain ⟨b, o, rfl, hb, hcell⟩ := h1.ex (fun e => by
    have h : (levsC pl)[k * 2 + 0]? = some (.int .i64 p.2.2) := hv 0 _ (by omega) rfl
    rw [e] at h; simp at h)
  refine ⟨b, o, p.2.2, A', c', rfl, hb, hcell _ _ (hv 0 _ (by omega) rfl), ?_, hc⟩
  rw [Nat.add_assoc, ← e]
  exact hcell _ _ (hv 1 _ (by omega) rfl)
theorem GramC.levs {w : World} {B : Nat} {v : Value} {G : Rd.G} (h : GramC w B v G) : ∃ A1 n1 c1 A2 n2 c2 A3 c3 st A4 n4 c4, v = .agg #[.slice A1 n1 c1, .slice A2 n2 c2, .slice A3 G.levels.length c3, .string st, .slice A4 n4 c4] ∧ LevsC w B A3 G.levels := by
  obtain ⟨A1, c1, A2, c2, A3, c3, A4, c4, pl, ql, h0, h1, h2, h3, h4, h5, h6, h7, h8⟩ := h.ex
  exact ⟨_, _, _, _, _, _, A3, c3, _, _, _, _, h0, pl, h3, h4, fun p hp => (h5 p hp).2⟩
set_option maxHeartbeats 1000000 in
theorem rplace_any (l : List Rd.Name) (n : Rd.Name) (A : Option Addr) (cap B : Nat) (w : World) (hl : Cl w B A (namesV l)) (hn : l.length ≤ 140737488355328) :
    Calls Tryz.prog 66 #[.slice A l.length cap, .string (str n)] w fun e w' => e = .returned (.int .i64 (Nm.place l n)) ∧ ∃ m, w' = w.drewN m := by
  have HL := Lib.hid hl
  obtain ⟨N, hnn⟩ : ∃ N, l.length = N := ⟨_, rfl⟩
  rw [hnn] at hn ⊢
  have HNN := Lib.hid hnn
  have HEQ := Lib.hid (fun (x : Rd.Name) => str_same x n)
  generalize str n = S at HEQ ⊢
  obtain ⟨R, hR⟩ : ∃ R, Nm.place l n = R := ⟨_, rfl⟩
  have HR := Lib.hid hR
  rw [hR]
  clear hl hnn hR
  go_enter Tryz.func66, Tryz.ntmps66
  go_wp2_with fail
  go_loopw [5] (fun i wr => ∃ (k m : Nat), k ≤ N ∧ i = .int .i64 (k : Int) ∧ (∀ y ∈ l.take k, Nm.isN n y = false) ∧ wr = w.drewN m) (fun i _ => N - (intOf i).toNat)
  case atStart => exact ⟨0, 0, by omega, rfl, by simp, rfl⟩
  case round =>
    obtain ⟨k, m, hk, rfl, hno, rfl⟩ := hrel
    have HO := Lib.hid hno
    clear hno
    by_cases hlt : k < N
    · obtain ⟨x, ht⟩ := some_get (l := l) (i := k) (by rw [HNN.out]; exact hlt)
      obtain ⟨b, o, hA, hbl, hcell⟩ := HL.out.ex (fun e => by
        have h1 := namesV_get ht
        rw [e] at h1; simp at h1)
      subst hA
      have c0 : w.cell? ⟨b, o + k, none⟩ = some (.string (str x)) := hcell _ _ (namesV_get ht)
      have hki : (k : Int) < (N : Int) := by omega
      have hk0 : (0 : Int) ≤ (k : Int) := by omega
      have HT := Lib.hid ht
      have heq : ((str x).toList == S.toList) = Nm.isN n x := HEQ.out x
      cases hq : Nm.isN n x with
      | false =>
        rw [hq] at heq
        have HQ := Lib.hid hq
        clear hcell ht hq
        generalize str x = X at c0 heq
        go_wp2_with fail
        go_roundw
        case rel => exact ⟨k + 1, _, by omega, by go_num, none_take HT.out HO.out HQ.out, rfl⟩
        case measure => simp [intOf]; omega
      | true =>
        rw [hq] at heq
        have HQ := Lib.hid hq
        clear hcell ht hq
        generalize str x = X at c0 heq
        go_wp2_with fail
        go_ret
        exact ⟨by rw [← HR.out]; unfold Nm.place; rw [Nm.find_hit HT.out HQ.out HO.out]; rfl, _, rfl⟩
    · obtain rfl : N = k := by omega
      go_wp2_with fail
      go_ret
      exact ⟨by rw [← HR.out]; unfold Nm.place; rw [Nm.find_none (none_all HNN.out HO.out)]; rfl, _, rfl⟩
set_option maxHeartbeats 2000000 in
theorem rlevel_any (v : Value) (G : Rd.G) (n : Rd.Name) (B : Nat) (w : World) (hg : GramC w B v G) (hB : B ≤ w.heap.size) (hn : G.levels.length ≤ 140737488355328) (hx : ∀ v ∈ G.levels, v.names.length ≤ 140737488355328) :
    Calls Tryz.prog 67 #[v, .string (str n)] w fun e w' => e = .returned (.int .i64 (Nm.level G n)) ∧ Below w.heap.size w w' := by
  obtain ⟨A1, n1, c1, A2, n2, c2, A3, c3, st, A4, n4, c4, rfl, hl⟩ := hg.levs
  have hb := (Below.refl w.heap.size w).alloc (Nat.le_refl _) (.cells #[.slice A1 n1 c1, .slice A2 n2 c2, .slice A3 G.levels.length c3, .string st, .slice A4 n4 c4] 84)
  have hat := At.new w 84 #[.slice A1 n1 c1, .slice A2 n2 c2, .slice A3 G.levels.length c3, .string st, .slice A4 n4 c4]
  have HL := Lib.hid (hl.below (hb.mono hB))
  have HX := Lib.hid hx
  obtain ⟨N, hnn⟩ : ∃ N, G.levels.length = N := ⟨_, rfl⟩
  rw [hnn] at hn hb hat HL ⊢
  have HNN := Lib.hid hnn
  obtain ⟨S, hS⟩ : ∃ S, str n = S := ⟨_, rfl⟩
  have HS := Lib.hid hS
  rw [hS]
  obtain ⟨R, hR⟩ : ∃ R, Nm.level G n = R := ⟨_, rfl⟩
  have HR := Lib.hid hR
  rw [hR]
  obtain ⟨W0, hW0⟩ : ∃ W0, w.alloc (.cells #[.slice A1 n1 c1, .slice A2 n2 c2, .slice A3 N c3, .string st, .slice A4 n4 c4] 84) = W0 := ⟨_, rfl⟩
  rw [hW0] at hb hat HL
  have HW0 := Lib.hid hW0
  obtain ⟨g, hg0⟩ : ∃ g, w.heap.size = g := ⟨_, rfl⟩
  rw [hg0] at hat
  have HAT := Lib.hid hat
  have HB := Lib.hid hb
  have HG := Lib.hid hg0
  clear hl hnn hR hS hx hg hb hat hW0
  go_enter Tryz.func67, Tryz.ntmps67
  go_wp2_with fail
  rw [HW0.out]
  try rw [hg0]
  clear hg0
  go_loopw [5] (fun i wr => ∃ (k m : Nat), k ≤ N ∧ i = .int .i64 (k : Int) ∧ (∀ y ∈ G.levels.take k, Nm.hasN n y = false) ∧ wr = W0.drewN m) (fun i _ => N - (intOf i).toNat)
  case atStart => exact ⟨0, 0, by omega, rfl, by simp, rfl⟩
  case round =>
    obtain ⟨k, m, hk, rfl, hno, rfl⟩ := hrel
    have HO := Lib.hid hno
    have x2 := HAT.out.cell 2
    simp only [List.getElem?_toArray, List.getElem?_cons_zero, List.getElem?_cons_succ] at x2
    clear hno
    by_cases hlt : k < N
    · obtain ⟨v, ht⟩ := some_get (l := G.levels) (i := k) (by rw [HNN.out]; exact hlt)
      obtain ⟨b, o, a, A', c', hA, hbl, c0, c1', hcl⟩ := HL.out.get ht
      subst hA
      have hki : (k : Int) < (N : Int) := by omega
      have hk0 : (0 : Int) ≤ (k : Int) := by omega
      have HT := Lib.hid ht
      have hvn := HX.out v (List.mem_of_getElem? ht)
      have HC := Lib.hid (fun q => rplace_any v.names n A' c' B (W0.drewN q) ⟨hcl.ex⟩ hvn)
      rw [HS.out] at HC
      have hpl := hasN_place n v
      have hr := Nm.find_ge (p := Nm.isN n) v.names
      have hr1 : -1 ≤ Nm.place v.names n := hr
      cases hq : Nm.hasN n v with
      | false =>
        rw [hq, decide_eq_false_iff_not] at hpl
        have HQ := Lib.hid hq
        clear ht hq hvn hcl c0 hr
        generalize v.names.length = V at c1' HC
        generalize Nm.place v.names n = R2 at HC hpl hr1
        go_wp2_with fail
        refine (HC.out _).mono ?_
        rintro e w2 ⟨rfl, q, rfl⟩
        go_wp2_with fail
        go_roundw
        case rel => exact ⟨k + 1, _, by omega, by go_num, none_take HT.out HO.out HQ.out, rfl⟩
        case measure => simp [intOf]; omega
      | true =>
        rw [hq, decide_eq_true_eq] at hpl
        have HQ := Lib.hid hq
        clear ht hq hvn hcl c0 hr
        generalize v.names.length = V at c1' HC
        generalize Nm.place v.names n = R2 at HC hpl hr1
        go_wp2_with fail
        refine (HC.out _).mono ?_
        rintro e w2 ⟨rfl, q, rfl⟩
        go_wp2_with fail
        go_ret
        exact ⟨by rw [← HR.out]; unfold Nm.level; rw [Nm.find_hit HT.out HQ.out HO.out]; go_num, below_drewN HB.out _⟩
    · obtain rfl : N = k := by omega
      go_wp2_with fail
      go_ret
      exact ⟨by rw [← HR.out]; unfold Nm.level; rw [Nm.find_none (none_all HNN.out HO.out)]; rfl, below_drewN HB.out _⟩
end Go.Proofs.YtdhhkancbgealaaGreat
end
section
namespace Go.Proofs.YtdhhkancbgealaaGreat
open Go.RowKit
open Lx
set_option linter.unusedVariables false
set_option linter.unusedSimpArgs false
set_option maxRecDepth 100000
structure SymC (w : World) (B : Nat) (v : Value) (T V : List Rd.Name) : Prop where
  ex : ∃ A1 c1 A2 c2 A3 n3 c3 A4 n4 c4 A5 n5 c5 A6 n6 c6, v = .agg #[.slice A1 T.length c1, .slice A2 V.length c2, .slice A3 n3 c3, .slice A4 n4 c4, .slice A5 n5 c5, .slice A6 n6 c6] ∧ Cl w B A1 (namesV T) ∧ Cl w B A2 (namesV V)
theorem SymC.below {w w' : World} {B : Nat} {v : Value} {T V : List Rd.Name} (h : SymC w B v T V) (hb : Below B w w') : SymC w' B v T V := by
  obtain ⟨A1, c1, A2, c2, A3, n3, c3, A4, n4, c4, A5, n5, c5, A6, n6, c6, e, h1, h2⟩ := h.ex
  exact ⟨A1, c1, A2, c2, A3, n3, c3, A4, n4, c4, A5, n5, c5, A6, n6, c6, e, h1.below hb, h2.below hb⟩
set_option maxHeartbeats 1000000 in
theorem rsym_any (v : Value) (T V : List Rd.Name) (n : Rd.Name) (B : Nat) (w : World) (h : SymC w B v T V) (hB : B ≤ w.heap.size) (hT : T.length ≤ 1000000) (hV : V.length ≤ 1000000) :
    Calls Tryz.prog 68 #[v, .string (str n)] w fun e w' => e = .returned (.int .i64 (Nm.sym T V n)) ∧ Below w.heap.size w w' := by
  obtain ⟨A1, c1, A2, c2, A3, n3, c3, A4, n4, c4, A5, n5, c5, A6, n6, c6, rfl, h1, h2⟩ := h.ex
  have hb := (Below.refl w.heap.size w).alloc (Nat.le_refl _) (.cells #[.slice A1 T.length c1, .slice A2 V.length c2, .slice A3 n3 c3, .slice A4 n4 c4, .slice A5 n5 c5, .slice A6 n6 c6] 34)
  have hat := At.new w 34 #[.slice A1 T.length c1, .slice A2 V.length c2, .slice A3 n3 c3, .slice A4 n4 c4, .slice A5 n5 c5, .slice A6 n6 c6]
  have HF1 := Lib.hid (show ∀ w', Below w.heap.size w w' → Calls Tryz.prog 66 #[.slice A1 T.length c1, .string (str n)] w' fun e w'' => e = .returned (.int .i64 (Nm.place T n)) ∧ Below w'.heap.size w' w'' from fun w' hw' => (rplace_any T n A1 c1 B w' (h1.below (hw'.mono hB)) (by omega)).mono fun e w'' ⟨h1, m, h2⟩ => ⟨h1, h2 ▸ below_drewN (Below.refl _ _) m⟩)
  have HF2 := Lib.hid (show ∀ w', Below w.heap.size w w' → Calls Tryz.prog 66 #[.slice A2 V.length c2, .string (str n)] w' fun e w'' => e = .returned (.int .i64 (Nm.place V n)) ∧ Below w'.heap.size w' w'' from fun w' hw' => (rplace_any V n A2 c2 B w' (h2.below (hw'.mono hB)) (by omega)).mono fun e w'' ⟨h1, m, h2⟩ => ⟨h1, h2 ▸ below_drewN (Below.refl _ _) m⟩)
  have r1 : -1 ≤ Nm.place T n := Nm.find_ge _
  have r2 : Nm.place T n < (T.length : Int) := Nm.find_lt _
  have r3 : -1 ≤ Nm.place V n := Nm.find_ge _
  have r4 : Nm.place V n < (V.length : Int) := Nm.find_lt _
  unfold Nm.sym
  generalize Nm.place T n = a at HF1 r1 r2 ⊢
  generalize Nm.place V n = b at HF2 r3 r4 ⊢
  generalize T.length = NT at HF1 hb hat hT r2 ⊢
  generalize V.length = NV at HF2 hb hat hV r4 ⊢
  generalize str n = S at HF1 HF2 ⊢
  have HB := Lib.hid hb
  have HAT := Lib.hid hat
  clear h h1 h2 hb hat
  by_cases ha : 0 ≤ a
  · rw [if_pos ha]
    go_enter Tryz.func68, Tryz.ntmps68
    go_wp2_with fail
    refine (HF1.out _ HB.out).mono ?_
    rintro e w2 ⟨rfl, hb2⟩
    have HB2 := Lib.hid (HB.out.trans (hb2.mono HB.out.size))
    clear hb2
    go_wp2_with fail
    go_ret
    exact ⟨rfl, HB2.out⟩
  · rw [if_neg ha]
    by_cases hbb : 0 ≤ b
    · rw [if_pos hbb]
      go_enter Tryz.func68, Tryz.ntmps68
      go_wp2_with fail
      refine (HF1.out _ HB.out).mono ?_
      rintro e w2 ⟨rfl, hb2⟩
      have hat2 := HAT.out.below hb2 HAT.out.lt
      have HAT2 := Lib.hid hat2
      have HB2 := Lib.hid (HB.out.trans (hb2.mono HB.out.size))
      have x0 := hat2.cell 0
      have x1 := hat2.cell 1
      simp only [List.getElem?_toArray, List.getElem?_cons_zero, List.getElem?_cons_succ] at x0 x1
      clear hb2 hat2
      go_wp2_with fail
      refine (HF2.out _ HB2.out).mono ?_
      rintro e w3 ⟨rfl, hb3⟩
      have hat3 := HAT2.out.below hb3 HAT2.out.lt
      have HB3 := Lib.hid (HB2.out.trans (hb3.mono HB2.out.size))
      have y0 := hat3.cell 0
      simp only [List.getElem?_toArray, List.getElem?_cons_zero, List.getElem?_cons_succ] at y0
      clear hb3 hat3 x0 x1
      go_wp2_with fail
      go_ret
      exact ⟨by go_num, HB3.out⟩
    · rw [if_neg hbb]
      go_enter Tryz.func68, Tryz.ntmps68
      go_wp2_with fail
      refine (HF1.out _ HB.out).mono ?_
      rintro e w2 ⟨rfl, hb2⟩
      have hat2 := HAT.out.below hb2 HAT.out.lt
      have HB2 := Lib.hid (HB.out.trans (hb2.mono HB.out.size))
      have x0 := hat2.cell 0
      have x1 := hat2.cell 1
      simp only [List.getElem?_toArray, List.getElem?_cons_zero, List.getElem?_cons_succ] at x0 x1
      clear hb2 hat2
      go_wp2_with fail
      refine (HF2.out _ HB2.out).mono ?_
      rintro e w3 ⟨rfl, hb3⟩
      have HB3 := Lib.hid (HB2.out.trans (hb3.mono HB2.out.size))
      clear hb3 x0 x1
      go_wp2_with fail
      go_ret
      exact ⟨rfl, HB3.out⟩
theorem accept_any (v : Value) (T V : List Rd.Name) (B : Nat) (w : World) (h : SymC w B v T V) (hT : T.length ≤ 1000000) (hV : V.length ≤ 1000000) :
    Calls Tryz.prog 79 #[v] w fun e w' => e = .returned (.int .i64 ((T.length : Int) + (V.length : Int))) ∧ Below w.heap.size w w' := by
  obtain ⟨A1, c1, A2, c2, A3, n3, c3, A4, n4, c4, A5, n5, c5, A6, n6, c6, rfl, h1, h2⟩ := h.ex
  have HB := Lib.hid ((Below.refl w.heap.size w).alloc (Nat.le_refl _) (.cells #[.slice A1 T.length c1, .slice A2 V.length c2, .slice A3 n3 c3, .slice A4 n4 c4, .slice A5 n5 c5, .slice A6 n6 c6] 34))
  generalize T.length = NT at HB hT ⊢
  generalize V.length = NV at HB hV ⊢
  clear h h1 h2
  go_enter Tryz.func79, Tryz.ntmps79
  go_wp2_with fail
  go_ret
  exact ⟨by go_num, HB.out⟩
theorem term_any (v : Value) (T V : List Rd.Name) (i : Int) (B : Nat) (w : World) (h : SymC w B v T V) (hT : T.length ≤ 1000000) :
    Calls Tryz.prog 75 #[v, .int .i64 i] w fun e w' => e = .returned (.bool (decide (0 ≤ i ∧ i < (T.length : Int)))) ∧ Below w.heap.size w w' := by
  obtain ⟨A1, c1, A2, c2, A3, n3, c3, A4, n4, c4, A5, n5, c5, A6, n6, c6, rfl, h1, h2⟩ := h.ex
  have HB := Lib.hid ((Below.refl w.heap.size w).alloc (Nat.le_refl _) (.cells #[.slice A1 T.length c1, .slice A2 V.length c2, .slice A3 n3 c3, .slice A4 n4 c4, .slice A5 n5 c5, .slice A6 n6 c6] 34))
  generalize T.length = NT at HB hT ⊢
  generalize V.length = NV at HB ⊢
  clear h h1 h2
  by_cases h0 : 0 ≤ i
  · by_cases hl : i < (NT : Int)
    · rw [decide_eq_true ⟨h0, hl⟩]
      go_enter Tryz.func75, Tryz.ntmps75
      go_wp2_with fail
      go_ret
      exact ⟨rfl, HB.out⟩
    · rw [decide_eq_false (fun h => hl h.2)]
      go_enter Tryz.func75, Tryz.ntmps75
      go_wp2_with fail
      go_ret
      exact ⟨rfl, HB.out⟩
  · rw [decide_eq_false (fun h => h0 h.1)]
    go_enter Tryz.func75, Tryz.ntmps75
    go_wp2_with fail
    go_ret
    exact ⟨rfl, HB.out⟩
theorem cl_get {w : World} {B : Nat} {A : Option Addr} {l : List Rd.Name} (h : Cl w B A (namesV l)) {k : Nat} {x : Rd.Name} (hk : l[k]? = some x) : ∃ b o, A = some ⟨b, o, none⟩ ∧ b < B ∧ w.cell? ⟨b, o + k, none⟩ = some (.string (str x)) := by
  obtain ⟨b, o, h1, h2, h3⟩ := h.ex (fun e => by
    have h1 := namesV_get hk
    rw [e] at h1; simp at h1)
  exact ⟨b, o, h1, h2, h3 _ _ (namesV_get hk)⟩
theorem getD_get {l : List Rd.Name} {k : Nat} (h : k < l.length) : l[k]? = some (l.getD k []) := by simp [List.getD, List.getElem?_eq_getElem h]
end Go.Proofs.YtdhhkancbgealaaGreat
end
