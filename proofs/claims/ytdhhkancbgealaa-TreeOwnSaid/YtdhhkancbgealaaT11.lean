import Derived.Test.YtdhhkancbgealaaT09
import Derived.Test.YtdhhkancbgealaaT10
import Derived.BigQuiet
import Derived.Deep.QuietTactic
namespace Go.Proofs.Ytdhhkancbgealaa
open Go.RowKit
open Lx
set_option linter.unusedVariables false
set_option linter.unusedSimpArgs false
set_option maxRecDepth 100000
theorem none_take {α : Type} {p : α → Bool} {l : List α} {k : Nat} {x : α} (hx : l[k]? = some x) (h : ∀ y ∈ l.take k, p y = false) (hp : p x = false) : ∀ y ∈ l.take (k + 1), p y = false := by
 intro y hy
 rw [List.take_add_one, hx] at hy
 rcases List.mem_append.1 hy with h1 | h1
 ·exact h y h1
 ·simp at h1; subst h1; exact hp
theorem none_all {α : Type} {p : α → Bool} {l : List α} {n : Nat} (hn : l.length = n) (h : ∀ y ∈ l.take n, p y = false) : ∀ y ∈ l, p y = false := by
 rw [← hn, List.take_length] at h; exact h
theorem hasN_place (n : Rd.Name) (v : Rd.Lev) : decide (0 ≤ Nm.place v.names n) = Nm.hasN n v := by
 unfold Nm.hasN
 by_cases h : n ∈ v.names
 ·rw [decide_eq_true h, decide_eq_true (Nm.place_ge.2 h)]
 ·rw [decide_eq_false h, decide_eq_false (fun h1 => h (Nm.place_ge.1 h1))]
structure LevsC (w : World) (B : Nat) (A : Option Addr) (L : List Rd.Lev) : Prop where
 ex : ∃ pl, Cl w B A (levsC pl) ∧ pl.map (·.1) = L ∧ ∀ p ∈ pl, NmC w B p.2.1 p.1.names
theorem LevsC.below {w w' : World} {B : Nat} {A : Option Addr} {L : List Rd.Lev} (h : LevsC w B A L) (hb : Below B w w') : LevsC w' B A L := by
 obtain ⟨pl, h1, h2, h3⟩ := h.ex
 exact ⟨pl, h1.below hb, h2, fun p hp => (h3 p hp).below hb⟩
theorem LevsC.get {w : World} {B : Nat} {A : Option Addr} {L : List Rd.Lev} (h : LevsC w B A L) {k : Nat} {v : Rd.Lev} (hk : L[k]? = some v) :
  ∃ b o a A' c', A = some ⟨b, o, none⟩ ∧ b < B ∧ w.cell? ⟨b, o + k * 2, none⟩ = some (.int .i64 a) ∧ w.cell? ⟨b, o + k * 2 + 1, none⟩ = some (.slice A' v.names.length c') ∧ Cl w B A' (namesV v.names) := by
 obtain ⟨pl, h1, h2, h3⟩ := h.ex
 have hk2 := hk
 rw [← h2, List.getElem?_map, Option.map_eq_some_iff] at hk2
 obtain ⟨p, hp, rfl⟩ := hk2
 obtain ⟨A', c', e, hc⟩ := h3 p (List.mem_of_getElem? hp)
 have hv := fun j u (hj : j < 2) (hu : (levC p)[j]? = some u) => flat_get levC 2 (fun _ => rfl) pl k j p u hp hj hu
 obtain ⟨b, o, rfl, hb, hcell⟩ := h1.ex (fun e => by
  have h : (levsC pl)[k * 2 + 0]? = some (.int .i64 p.2.2) := hv 0 _ (by omega) rfl
  rw [e] at h; simp at h)
 refine ⟨b, o, p.2.2, A', c', rfl, hb, hcell _ _ (hv 0 _ (by omega) rfl), ?_, hc⟩
 rw [Nat.add_assoc, ← e]
 exact hcell _ _ (hv 1 _ (by omega) rfl)
theorem GramC.levs {w : World} {B : Nat} {v : Value} {G : Rd.G} (h : GramC w B v G) : ∃ A1 n1 c1 A2 n2 c2 A3 c3 st A4 n4 c4, v = .agg #[.slice A1 n1 c1, .slice A2 n2 c2, .slice A3 G.levels.length c3, .string st, .slice A4 n4 c4] ∧ LevsC w B A3 G.levels := by
 obtain ⟨A1, c1, A2, c2, A3, c3, A4, c4, pl, ql, h0, h1, h2, h3, h4, h5, h6, h7, h8⟩ := h.ex
 exact ⟨_, _, _, _, _, _, A3, c3, _, _, _, _, h0, pl, h3, h4, fun p hp => (h5 p hp).2⟩
set_option maxHeartbeats 1000000 in
theorem rplace_any (l : List Rd.Name) (n : Rd.Name) (A : Option Addr) (cap B : Nat) (w : World) (hl : Cl w B A (namesV l)) (hn : l.length ≤ 140737488355328) :
  Calls Try.prog 59 #[.slice A l.length cap, .string (str n)] w fun e w' => e = .returned (.int .i64 (Nm.place l n)) ∧ ∃ m, w' = w.drewN m := by
 have HL := Lib.hid hl
 obtain ⟨N, hnn⟩ : ∃ N, l.length = N := ⟨_, rfl⟩
 rw [hnn] at hn ⊢
 have HNN := Lib.hid hnn
 have HEQ := Lib.hid (fun (x : Rd.Name) => str_same x n)
 generalize str n = S at HEQ ⊢
 obtain ⟨R, hR⟩ : ∃ R, Nm.place l n = R := ⟨_, rfl⟩
 have HR := Lib.hid hR
 rw [hR]
 clear hl hnn hR
 go_enter Try.func59, Try.ntmps59
 go_wp2_with fail
 go_loopw [5] (fun i wr => ∃ (k m : Nat), k ≤ N ∧ i = .int .i64 (k : Int) ∧ (∀ y ∈ l.take k, Nm.isN n y = false) ∧ wr = w.drewN m) (fun i _ => N - (intOf i).toNat)
 case atStart => exact ⟨0, 0, by omega, rfl, by simp, rfl⟩
 case round =>
  obtain ⟨k, m, hk, rfl, hno, rfl⟩ := hrel
  have HO := Lib.hid hno
  clear hno
  by_cases hlt : k < N
  ·obtain ⟨x, ht⟩ := some_get (l := l) (i := k) (by rw [HNN.out]; exact hlt)
   obtain ⟨b, o, hA, hbl, hcell⟩ := HL.out.ex (fun e => by
    have h1 := namesV_get ht
    rw [e] at h1; simp at h1)
   subst hA
   have c0 : w.cell? ⟨b, o + k, none⟩ = some (.string (str x)) := hcell _ _ (namesV_get ht)
   have hki : (k : Int) < (N : Int) := by omega
   have hk0 : (0 : Int) ≤ (k : Int) := by omega
   have HT := Lib.hid ht
   have heq : ((str x).toList == S.toList) = Nm.isN n x := HEQ.out x
   cases hq : Nm.isN n x with
   | false =>
    rw [hq] at heq
    have HQ := Lib.hid hq
    clear hcell ht hq
    generalize str x = X at c0 heq
    go_wp2_with fail
    go_roundw
    case rel => exact ⟨k + 1, _, by omega, by go_num, none_take HT.out HO.out HQ.out, rfl⟩
    case measure => simp [intOf]; omega
   | true =>
    rw [hq] at heq
    have HQ := Lib.hid hq
    clear hcell ht hq
    generalize str x = X at c0 heq
    go_wp2_with fail
    go_ret
    exact ⟨by rw [← HR.out]; unfold Nm.place; rw [Nm.find_hit HT.out HQ.out HO.out]; rfl, _, rfl⟩
  ·obtain rfl : N = k := by omega
   go_wp2_with fail
   go_ret
   exact ⟨by rw [← HR.out]; unfold Nm.place; rw [Nm.find_none (none_all HNN.out HO.out)]; rfl, _, rfl⟩
set_option maxHeartbeats 2000000 in
theorem rlevel_any (v : Value) (G : Rd.G) (n : Rd.Name) (B : Nat) (w : World) (hg : GramC w B v G) (hB : B ≤ w.heap.size) (hn : G.levels.length ≤ 140737488355328) (hx : ∀ v ∈ G.levels, v.names.length ≤ 140737488355328) :
  Calls Try.prog 60 #[v, .string (str n)] w fun e w' => e = .returned (.int .i64 (Nm.level G n)) ∧ Below w.heap.size w w' := by
 obtain ⟨A1, n1, c1, A2, n2, c2, A3, c3, st, A4, n4, c4, rfl, hl⟩ := hg.levs
 have hb := (Below.refl w.heap.size w).alloc (Nat.le_refl _) (.cells #[.slice A1 n1 c1, .slice A2 n2 c2, .slice A3 G.levels.length c3, .string st, .slice A4 n4 c4] 77)
 have hat := At.new w 77 #[.slice A1 n1 c1, .slice A2 n2 c2, .slice A3 G.levels.length c3, .string st, .slice A4 n4 c4]
 have HL := Lib.hid (hl.below (hb.mono hB))
 have HX := Lib.hid hx
 obtain ⟨N, hnn⟩ : ∃ N, G.levels.length = N := ⟨_, rfl⟩
 rw [hnn] at hn hb hat HL ⊢
 have HNN := Lib.hid hnn
 obtain ⟨S, hS⟩ : ∃ S, str n = S := ⟨_, rfl⟩
 have HS := Lib.hid hS
 rw [hS]
 obtain ⟨R, hR⟩ : ∃ R, Nm.level G n = R := ⟨_, rfl⟩
 have HR := Lib.hid hR
 rw [hR]
 obtain ⟨W0, hW0⟩ : ∃ W0, w.alloc (.cells #[.slice A1 n1 c1, .slice A2 n2 c2, .slice A3 N c3, .string st, .slice A4 n4 c4] 77) = W0 := ⟨_, rfl⟩
 rw [hW0] at hb hat HL
 have HW0 := Lib.hid hW0
 obtain ⟨g, hg0⟩ : ∃ g, w.heap.size = g := ⟨_, rfl⟩
 rw [hg0] at hat
 have HAT := Lib.hid hat
 have HB := Lib.hid hb
 have HG := Lib.hid hg0
 clear hl hnn hR hS hx hg hb hat hW0
 go_enter Try.func60, Try.ntmps60
 go_wp2_with fail
 rw [HW0.out]
 try rw [hg0]
 clear hg0
 go_loopw [5] (fun i wr => ∃ (k m : Nat), k ≤ N ∧ i = .int .i64 (k : Int) ∧ (∀ y ∈ G.levels.take k, Nm.hasN n y = false) ∧ wr = W0.drewN m) (fun i _ => N - (intOf i).toNat)
 case atStart => exact ⟨0, 0, by omega, rfl, by simp, rfl⟩
 case round =>
  obtain ⟨k, m, hk, rfl, hno, rfl⟩ := hrel
  have HO := Lib.hid hno
  have x2 := HAT.out.cell 2
  simp only [List.getElem?_toArray, List.getElem?_cons_zero, List.getElem?_cons_succ] at x2
  clear hno
  by_cases hlt : k < N
  ·obtain ⟨v, ht⟩ := some_get (l := G.levels) (i := k) (by rw [HNN.out]; exact hlt)
   obtain ⟨b, o, a, A', c', hA, hbl, c0, c1', hcl⟩ := HL.out.get ht
   subst hA
   have hki : (k : Int) < (N : Int) := by omega
   have hk0 : (0 : Int) ≤ (k : Int) := by omega
   have HT := Lib.hid ht
   have hvn := HX.out v (List.mem_of_getElem? ht)
   have HC := Lib.hid (fun q => rplace_any v.names n A' c' B (W0.drewN q) ⟨hcl.ex⟩ hvn)
   rw [HS.out] at HC
   have hpl := hasN_place n v
   have hr := Nm.find_ge (p := Nm.isN n) v.names
   have hr1 : -1 ≤ Nm.place v.names n := hr
   cases hq : Nm.hasN n v with
   | false =>
    rw [hq, decide_eq_false_iff_not] at hpl
    have HQ := Lib.hid hq
    clear ht hq hvn hcl c0 hr
    generalize v.names.length = V at c1' HC
    generalize Nm.place v.names n = R2 at HC hpl hr1
    go_wp2_with fail
    refine (HC.out _).mono ?_
    rintro e w2 ⟨rfl, q, rfl⟩
    go_wp2_with fail
    go_roundw
    case rel => exact ⟨k + 1, _, by omega, by go_num, none_take HT.out HO.out HQ.out, rfl⟩
    case measure => simp [intOf]; omega
   | true =>
    rw [hq, decide_eq_true_eq] at hpl
    have HQ := Lib.hid hq
    clear ht hq hvn hcl c0 hr
    generalize v.names.length = V at c1' HC
    generalize Nm.place v.names n = R2 at HC hpl hr1
    go_wp2_with fail
    refine (HC.out _).mono ?_
    rintro e w2 ⟨rfl, q, rfl⟩
    go_wp2_with fail
    go_ret
    exact ⟨by rw [← HR.out]; unfold Nm.level; rw [Nm.find_hit HT.out HQ.out HO.out]; go_num, below_drewN HB.out _⟩
  ·obtain rfl : N = k := by omega
   go_wp2_with fail
   go_ret
   exact ⟨by rw [← HR.out]; unfold Nm.level; rw [Nm.find_none (none_all HNN.out HO.out)]; rfl, below_drewN HB.out _⟩
end Go.Proofs.Ytdhhkancbgealaa
