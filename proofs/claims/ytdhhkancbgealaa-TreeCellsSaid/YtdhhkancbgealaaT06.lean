import Derived.Test.YtdhhkancbgealaaT05
import Derived.BigQuiet
import Derived.Deep.QuietTactic
import Derived.Shelf.Strings.OnBuilder
section
namespace Go.Proofs.Ytdhhkancbgealaa
open Go.RowKit
open Lx
set_option linter.unusedVariables false
set_option linter.unusedSimpArgs false
set_option maxRecDepth 100000
theorem none_take {α : Type} {p : α → Bool} {l : List α} {k : Nat} {x : α} (hx : l[k]? = some x) (h : ∀ y ∈ l.take k, p y = false) (hp : p x = false) : ∀ y ∈ l.take (k + 1), p y = false := by
 intro y hy
 rw [List.take_add_one, hx] at hy
 rcases List.mem_append.1 hy with h1 | h1
 ·exact h y h1
 ·simp at h1; subst h1; exact hp
theorem none_all {α : Type} {p : α → Bool} {l : List α} {n : Nat} (hn : l.length = n) (h : ∀ y ∈ l.take n, p y = false) : ∀ y ∈ l, p y = false := by
 rw [← hn, List.take_length] at h; exact h
theorem hasN_place (n : Rd.Name) (v : Rd.Lev) : decide (0 ≤ Nm.place v.names n) = Nm.hasN n v := by
 unfold Nm.hasN
 by_cases h : n ∈ v.names
 ·rw [decide_eq_true h, decide_eq_true (Nm.place_ge.2 h)]
 ·rw [decide_eq_false h, decide_eq_false (fun h1 => h (Nm.place_ge.1 h1))]
structure LevsC (w : World) (B : Nat) (A : Option Addr) (L : List Rd.Lev) : Prop where
 ex : ∃ pl, Cl w B A (levsC pl) ∧ pl.map (·.1) = L ∧ ∀ p ∈ pl, NmC w B p.2.1 p.1.names
theorem LevsC.below {w w' : World} {B : Nat} {A : Option Addr} {L : List Rd.Lev} (h : LevsC w B A L) (hb : Below B w w') : LevsC w' B A L := by
 obtain ⟨pl, h1, h2, h3⟩ := h.ex
 exact ⟨pl, h1.below hb, h2, fun p hp => (h3 p hp).below hb⟩
theorem LevsC.get {w : World} {B : Nat} {A : Option Addr} {L : List Rd.Lev} (h : LevsC w B A L) {k : Nat} {v : Rd.Lev} (hk : L[k]? = some v) :
  ∃ b o a A' c', A = some ⟨b, o, none⟩ ∧ b < B ∧ w.cell? ⟨b, o + k * 2, none⟩ = some (.int .i64 a) ∧ w.cell? ⟨b, o + k * 2 + 1, none⟩ = some (.slice A' v.names.length c') ∧ Cl w B A' (namesV v.names) := by
 obtain ⟨pl, h1, h2, h3⟩ := h.ex
 have hk2 := hk
 rw [← h2, List.getElem?_map, Option.map_eq_some_iff] at hk2
 obtain ⟨p, hp, rfl⟩ := hk2
 obtain ⟨A', c', e, hc⟩ := h3 p (List.mem_of_getElem? hp)
 have hv := fun j u (hj : j < 2) (hu : (levC p)[j]? = some u) => flat_get levC 2 (fun _ => rfl) pl k j p u hp hj hu
 obtain ⟨b, o, rfl, hb, hcell⟩ := h1.ex (fun e => by
  have h : (levsC pl)[k * 2 + 0]? = some (.int .i64 p.2.2) := hv 0 _ (by omega) rfl
  rw [e] at h; simp at h)
 refine ⟨b, o, p.2.2, A', c', rfl, hb, hcell _ _ (hv 0 _ (by omega) rfl), ?_, hc⟩
 rw [Nat.add_assoc, ← e]
 exact hcell _ _ (hv 1 _ (by omega) rfl)
theorem GramC.levs {w : World} {B : Nat} {v : Value} {G : Rd.G} (h : GramC w B v G) : ∃ A1 n1 c1 A2 n2 c2 A3 c3 st A4 n4 c4, v = .agg #[.slice A1 n1 c1, .slice A2 n2 c2, .slice A3 G.levels.length c3, .string st, .slice A4 n4 c4] ∧ LevsC w B A3 G.levels := by
 obtain ⟨A1, c1, A2, c2, A3, c3, A4, c4, pl, ql, h0, h1, h2, h3, h4, h5, h6, h7, h8⟩ := h.ex
 exact ⟨_, _, _, _, _, _, A3, c3, _, _, _, _, h0, pl, h3, h4, fun p hp => (h5 p hp).2⟩
set_option maxHeartbeats 1000000 in
theorem rplace_any (l : List Rd.Name) (n : Rd.Name) (A : Option Addr) (cap B : Nat) (w : World) (hl : Cl w B A (namesV l)) (hn : l.length ≤ 140737488355328) :
  Calls Try.prog 59 #[.slice A l.length cap, .string (str n)] w fun e w' => e = .returned (.int .i64 (Nm.place l n)) ∧ ∃ m, w' = w.drewN m := by
 have HL := Lib.hid hl
 obtain ⟨N, hnn⟩ : ∃ N, l.length = N := ⟨_, rfl⟩
 rw [hnn] at hn ⊢
 have HNN := Lib.hid hnn
 have HEQ := Lib.hid (fun (x : Rd.Name) => str_same x n)
 generalize str n = S at HEQ ⊢
 obtain ⟨R, hR⟩ : ∃ R, Nm.place l n = R := ⟨_, rfl⟩
 have HR := Lib.hid hR
 rw [hR]
 clear hl hnn hR
 go_enter Try.func59, Try.ntmps59
 go_wp2_with fail
 go_loopw [5] (fun i wr => ∃ (k m : Nat), k ≤ N ∧ i = .int .i64 (k : Int) ∧ (∀ y ∈ l.take k, Nm.isN n y = false) ∧ wr = w.drewN m) (fun i _ => N - (intOf i).toNat)
 case atStart => exact ⟨0, 0, by omega, rfl, by simp, rfl⟩
 case round =>
  obtain ⟨k, m, hk, rfl, hno, rfl⟩ := hrel
  have HO := Lib.hid hno
  clear hno
  by_cases hlt : k < N
  ·obtain ⟨x, ht⟩ := some_get (l := l) (i := k) (by rw [HNN.out]; exact hlt)
   obtain ⟨b, o, hA, hbl, hcell⟩ := HL.out.ex (fun e => by
    have h1 := namesV_get ht
    rw [e] at h1; simp at h1)
   subst hA
   have c0 : w.cell? ⟨b, o + k, none⟩ = some (.string (str x)) := hcell _ _ (namesV_get ht)
   have hki : (k : Int) < (N : Int) := by omega
   have hk0 : (0 : Int) ≤ (k : Int) := by omega
   have HT := Lib.hid ht
   have heq : ((str x).toList == S.toList) = Nm.isN n x := HEQ.out x
   cases hq : Nm.isN n x with
   | false =>
    rw [hq] at heq
    have HQ := Lib.hid hq
    clear hcell ht hq
    generalize str x = X at c0 heq
    go_wp2_with fail
    go_roundw
    case rel => exact ⟨k + 1, _, by omega, by go_num, none_take HT.out HO.out HQ.out, rfl⟩
    case measure => simp [intOf]; omega
   | true =>
    rw [hq] at heq
    have HQ := Lib.hid hq
    clear hcell ht hq
    generalize str x = X at c0 heq
    go_wp2_with fail
    go_ret
    exact ⟨by rw [← HR.out]; unfold Nm.place; rw [Nm.find_hit HT.out HQ.out HO.out]; rfl, _, rfl⟩
  ·obtain rfl : N = k := by omega
   go_wp2_with fail
   go_ret
   exact ⟨by rw [← HR.out]; unfold Nm.place; rw [Nm.find_none (none_all HNN.out HO.out)]; rfl, _, rfl⟩
set_option maxHeartbeats 2000000 in
theorem rlevel_any (v : Value) (G : Rd.G) (n : Rd.Name) (B : Nat) (w : World) (hg : GramC w B v G) (hB : B ≤ w.heap.size) (hn : G.levels.length ≤ 140737488355328) (hx : ∀ v ∈ G.levels, v.names.length ≤ 140737488355328) :
  Calls Try.prog 60 #[v, .string (str n)] w fun e w' => e = .returned (.int .i64 (Nm.level G n)) ∧ Below w.heap.size w w' := by
 obtain ⟨A1, n1, c1, A2, n2, c2, A3, c3, st, A4, n4, c4, rfl, hl⟩ := hg.levs
 have hb := (Below.refl w.heap.size w).alloc (Nat.le_refl _) (.cells #[.slice A1 n1 c1, .slice A2 n2 c2, .slice A3 G.levels.length c3, .string st, .slice A4 n4 c4] 77)
 have hat := At.new w 77 #[.slice A1 n1 c1, .slice A2 n2 c2, .slice A3 G.levels.length c3, .string st, .slice A4 n4 c4]
 have HL := Lib.hid (hl.below (hb.mono hB))
 have HX := Lib.hid hx
 obtain ⟨N, hnn⟩ : ∃ N, G.levels.length = N := ⟨_, rfl⟩
 rw [hnn] at hn hb hat HL ⊢
 have HNN := Lib.hid hnn
 obtain ⟨S, hS⟩ : ∃ S, str n = S := ⟨_, rfl⟩
 have HS := Lib.hid hS
 rw [hS]
 obtain ⟨R, hR⟩ : ∃ R, Nm.level G n = R := ⟨_, rfl⟩
 have HR := Lib.hid hR
 rw [hR]
 obtain ⟨W0, hW0⟩ : ∃ W0, w.alloc (.cells #[.slice A1 n1 c1, .slice A2 n2 c2, .slice A3 N c3, .string st, .slice A4 n4 c4] 77) = W0 := ⟨_, rfl⟩
 rw [hW0] at hb hat HL
 have HW0 := Lib.hid hW0
 obtain ⟨g, hg0⟩ : ∃ g, w.heap.size = g := ⟨_, rfl⟩
 rw [hg0] at hat
 have HAT := Lib.hid hat
 have HB := Lib.hid hb
 have HG := Lib.hid hg0
 clear hl hnn hR hS hx hg hb hat hW0
 go_enter Try.func60, Try.ntmps60
 go_wp2_with fail
 rw [HW0.out]
 try rw [hg0]
 clear hg0
 go_loopw [5] (fun i wr => ∃ (k m : Nat), k ≤ N ∧ i = .int .i64 (k : Int) ∧ (∀ y ∈ G.levels.take k, Nm.hasN n y = false) ∧ wr = W0.drewN m) (fun i _ => N - (intOf i).toNat)
 case atStart => exact ⟨0, 0, by omega, rfl, by simp, rfl⟩
 case round =>
  obtain ⟨k, m, hk, rfl, hno, rfl⟩ := hrel
  have HO := Lib.hid hno
  have x2 := HAT.out.cell 2
  simp only [List.getElem?_toArray, List.getElem?_cons_zero, List.getElem?_cons_succ] at x2
  clear hno
  by_cases hlt : k < N
  ·obtain ⟨v, ht⟩ := some_get (l := G.levels) (i := k) (by rw [HNN.out]; exact hlt)
   obtain ⟨b, o, a, A', c', hA, hbl, c0, c1', hcl⟩ := HL.out.get ht
   subst hA
   have hki : (k : Int) < (N : Int) := by omega
   have hk0 : (0 : Int) ≤ (k : Int) := by omega
   have HT := Lib.hid ht
   have hvn := HX.out v (List.mem_of_getElem? ht)
   have HC := Lib.hid (fun q => rplace_any v.names n A' c' B (W0.drewN q) ⟨hcl.ex⟩ hvn)
   rw [HS.out] at HC
   have hpl := hasN_place n v
   have hr := Nm.find_ge (p := Nm.isN n) v.names
   have hr1 : -1 ≤ Nm.place v.names n := hr
   cases hq : Nm.hasN n v with
   | false =>
    rw [hq, decide_eq_false_iff_not] at hpl
    have HQ := Lib.hid hq
    clear ht hq hvn hcl c0 hr
    generalize v.names.length = V at c1' HC
    generalize Nm.place v.names n = R2 at HC hpl hr1
    go_wp2_with fail
    refine (HC.out _).mono ?_
    rintro e w2 ⟨rfl, q, rfl⟩
    go_wp2_with fail
    go_roundw
    case rel => exact ⟨k + 1, _, by omega, by go_num, none_take HT.out HO.out HQ.out, rfl⟩
    case measure => simp [intOf]; omega
   | true =>
    rw [hq, decide_eq_true_eq] at hpl
    have HQ := Lib.hid hq
    clear ht hq hvn hcl c0 hr
    generalize v.names.length = V at c1' HC
    generalize Nm.place v.names n = R2 at HC hpl hr1
    go_wp2_with fail
    refine (HC.out _).mono ?_
    rintro e w2 ⟨rfl, q, rfl⟩
    go_wp2_with fail
    go_ret
    exact ⟨by rw [← HR.out]; unfold Nm.level; rw [Nm.find_hit HT.out HQ.out HO.out]; go_num, below_drewN HB.out _⟩
  ·obtain rfl : N = k := by omega
   go_wp2_with fail
   go_ret
   exact ⟨by rw [← HR.out]; unfold Nm.level; rw [Nm.find_none (none_all HNN.out HO.out)]; rfl, below_drewN HB.out _⟩
end Go.Proofs.Ytdhhkancbgealaa
end
section
namespace Go.Proofs.Ytdhhkancbgealaa
open Go.RowKit
open Lx
set_option linter.unusedVariables false
set_option linter.unusedSimpArgs false
set_option maxRecDepth 100000
structure SymC (w : World) (B : Nat) (v : Value) (T V : List Rd.Name) : Prop where
 ex : ∃ A1 c1 A2 c2 A3 n3 c3 A4 n4 c4 A5 n5 c5 A6 n6 c6, v = .agg #[.slice A1 T.length c1, .slice A2 V.length c2, .slice A3 n3 c3, .slice A4 n4 c4, .slice A5 n5 c5, .slice A6 n6 c6] ∧ Cl w B A1 (namesV T) ∧ Cl w B A2 (namesV V)
theorem SymC.below {w w' : World} {B : Nat} {v : Value} {T V : List Rd.Name} (h : SymC w B v T V) (hb : Below B w w') : SymC w' B v T V := by
 obtain ⟨A1, c1, A2, c2, A3, n3, c3, A4, n4, c4, A5, n5, c5, A6, n6, c6, e, h1, h2⟩ := h.ex
 exact ⟨A1, c1, A2, c2, A3, n3, c3, A4, n4, c4, A5, n5, c5, A6, n6, c6, e, h1.below hb, h2.below hb⟩
set_option maxHeartbeats 1000000 in
theorem rsym_any (v : Value) (T V : List Rd.Name) (n : Rd.Name) (B : Nat) (w : World) (h : SymC w B v T V) (hB : B ≤ w.heap.size) (hT : T.length ≤ 1000000) (hV : V.length ≤ 1000000) :
  Calls Try.prog 61 #[v, .string (str n)] w fun e w' => e = .returned (.int .i64 (Nm.sym T V n)) ∧ Below w.heap.size w w' := by
 obtain ⟨A1, c1, A2, c2, A3, n3, c3, A4, n4, c4, A5, n5, c5, A6, n6, c6, rfl, h1, h2⟩ := h.ex
 have hb := (Below.refl w.heap.size w).alloc (Nat.le_refl _) (.cells #[.slice A1 T.length c1, .slice A2 V.length c2, .slice A3 n3 c3, .slice A4 n4 c4, .slice A5 n5 c5, .slice A6 n6 c6] 38)
 have hat := At.new w 38 #[.slice A1 T.length c1, .slice A2 V.length c2, .slice A3 n3 c3, .slice A4 n4 c4, .slice A5 n5 c5, .slice A6 n6 c6]
 have HF1 := Lib.hid (show ∀ w', Below w.heap.size w w' → Calls Try.prog 59 #[.slice A1 T.length c1, .string (str n)] w' fun e w'' => e = .returned (.int .i64 (Nm.place T n)) ∧ Below w'.heap.size w' w'' from fun w' hw' => (rplace_any T n A1 c1 B w' (h1.below (hw'.mono hB)) (by omega)).mono fun e w'' ⟨h1, m, h2⟩ => ⟨h1, h2 ▸ below_drewN (Below.refl _ _) m⟩)
 have HF2 := Lib.hid (show ∀ w', Below w.heap.size w w' → Calls Try.prog 59 #[.slice A2 V.length c2, .string (str n)] w' fun e w'' => e = .returned (.int .i64 (Nm.place V n)) ∧ Below w'.heap.size w' w'' from fun w' hw' => (rplace_any V n A2 c2 B w' (h2.below (hw'.mono hB)) (by omega)).mono fun e w'' ⟨h1, m, h2⟩ => ⟨h1, h2 ▸ below_drewN (Below.refl _ _) m⟩)
 have r1 : -1 ≤ Nm.place T n := Nm.find_ge _
 have r2 : Nm.place T n < (T.length : Int) := Nm.find_lt _
 have r3 : -1 ≤ Nm.place V n := Nm.find_ge _
 have r4 : Nm.place V n < (V.length : Int) := Nm.find_lt _
 unfold Nm.sym
 generalize Nm.place T n = a at HF1 r1 r2 ⊢
 generalize Nm.place V n = b at HF2 r3 r4 ⊢
 generalize T.length = NT at HF1 hb hat hT r2 ⊢
 generalize V.length = NV at HF2 hb hat hV r4 ⊢
 generalize str n = S at HF1 HF2 ⊢
 have HB := Lib.hid hb
 have HAT := Lib.hid hat
 clear h h1 h2 hb hat
 by_cases ha : 0 ≤ a
 ·rw [if_pos ha]
  go_enter Try.func61, Try.ntmps61
  go_wp2_with fail
  refine (HF1.out _ HB.out).mono ?_
  rintro e w2 ⟨rfl, hb2⟩
  have HB2 := Lib.hid (HB.out.trans (hb2.mono HB.out.size))
  clear hb2
  go_wp2_with fail
  go_ret
  exact ⟨rfl, HB2.out⟩
 ·rw [if_neg ha]
  by_cases hbb : 0 ≤ b
  ·rw [if_pos hbb]
   go_enter Try.func61, Try.ntmps61
   go_wp2_with fail
   refine (HF1.out _ HB.out).mono ?_
   rintro e w2 ⟨rfl, hb2⟩
   have hat2 := HAT.out.below hb2 HAT.out.lt
   have HAT2 := Lib.hid hat2
   have HB2 := Lib.hid (HB.out.trans (hb2.mono HB.out.size))
   have x0 := hat2.cell 0
   have x1 := hat2.cell 1
   simp only [List.getElem?_toArray, List.getElem?_cons_zero, List.getElem?_cons_succ] at x0 x1
   clear hb2 hat2
   go_wp2_with fail
   refine (HF2.out _ HB2.out).mono ?_
   rintro e w3 ⟨rfl, hb3⟩
   have hat3 := HAT2.out.below hb3 HAT2.out.lt
   have HB3 := Lib.hid (HB2.out.trans (hb3.mono HB2.out.size))
   have y0 := hat3.cell 0
   simp only [List.getElem?_toArray, List.getElem?_cons_zero, List.getElem?_cons_succ] at y0
   clear hb3 hat3 x0 x1
   go_wp2_with fail
   go_ret
   exact ⟨by go_num, HB3.out⟩
  ·rw [if_neg hbb]
   go_enter Try.func61, Try.ntmps61
   go_wp2_with fail
   refine (HF1.out _ HB.out).mono ?_
   rintro e w2 ⟨rfl, hb2⟩
   have hat2 := HAT.out.below hb2 HAT.out.lt
   have HB2 := Lib.hid (HB.out.trans (hb2.mono HB.out.size))
   have x0 := hat2.cell 0
   have x1 := hat2.cell 1
   simp only [List.getElem?_toArray, List.getElem?_cons_zero, List.getElem?_cons_succ] at x0 x1
   clear hb2 hat2
   go_wp2_with fail
   refine (HF2.out _ HB2.out).mono ?_
   rintro e w3 ⟨rfl, hb3⟩
   have HB3 := Lib.hid (HB2.out.trans (hb3.mono HB2.out.size))
   clear hb3 x0 x1
   go_wp2_with fail
   go_ret
   exact ⟨rfl, HB3.out⟩
theorem accept_any (v : Value) (T V : List Rd.Name) (B : Nat) (w : World) (h : SymC w B v T V) (hT : T.length ≤ 1000000) (hV : V.length ≤ 1000000) :
  Calls Try.prog 72 #[v] w fun e w' => e = .returned (.int .i64 ((T.length : Int) + (V.length : Int))) ∧ Below w.heap.size w w' := by
 obtain ⟨A1, c1, A2, c2, A3, n3, c3, A4, n4, c4, A5, n5, c5, A6, n6, c6, rfl, h1, h2⟩ := h.ex
 have HB := Lib.hid ((Below.refl w.heap.size w).alloc (Nat.le_refl _) (.cells #[.slice A1 T.length c1, .slice A2 V.length c2, .slice A3 n3 c3, .slice A4 n4 c4, .slice A5 n5 c5, .slice A6 n6 c6] 38))
 generalize T.length = NT at HB hT ⊢
 generalize V.length = NV at HB hV ⊢
 clear h h1 h2
 go_enter Try.func72, Try.ntmps72
 go_wp2_with fail
 go_ret
 exact ⟨by go_num, HB.out⟩
theorem term_any (v : Value) (T V : List Rd.Name) (i : Int) (B : Nat) (w : World) (h : SymC w B v T V) (hT : T.length ≤ 1000000) :
  Calls Try.prog 73 #[v, .int .i64 i] w fun e w' => e = .returned (.bool (decide (0 ≤ i ∧ i < (T.length : Int)))) ∧ Below w.heap.size w w' := by
 obtain ⟨A1, c1, A2, c2, A3, n3, c3, A4, n4, c4, A5, n5, c5, A6, n6, c6, rfl, h1, h2⟩ := h.ex
 have HB := Lib.hid ((Below.refl w.heap.size w).alloc (Nat.le_refl _) (.cells #[.slice A1 T.length c1, .slice A2 V.length c2, .slice A3 n3 c3, .slice A4 n4 c4, .slice A5 n5 c5, .slice A6 n6 c6] 38))
 generalize T.length = NT at HB hT ⊢
 generalize V.length = NV at HB ⊢
 clear h h1 h2
 by_cases h0 : 0 ≤ i
 ·by_cases hl : i < (NT : Int)
  ·rw [decide_eq_true ⟨h0, hl⟩]
   go_enter Try.func73, Try.ntmps73
   go_wp2_with fail
   go_ret
   exact ⟨rfl, HB.out⟩
  ·rw [decide_eq_false (fun h => hl h.2)]
   go_enter Try.func73, Try.ntmps73
   go_wp2_with fail
   go_ret
   exact ⟨rfl, HB.out⟩
 ·rw [decide_eq_false (fun h => h0 h.1)]
  go_enter Try.func73, Try.ntmps73
  go_wp2_with fail
  go_ret
  exact ⟨rfl, HB.out⟩
theorem cl_get {w : World} {B : Nat} {A : Option Addr} {l : List Rd.Name} (h : Cl w B A (namesV l)) {k : Nat} {x : Rd.Name} (hk : l[k]? = some x) : ∃ b o, A = some ⟨b, o, none⟩ ∧ b < B ∧ w.cell? ⟨b, o + k, none⟩ = some (.string (str x)) := by
 obtain ⟨b, o, h1, h2, h3⟩ := h.ex (fun e => by
  have h1 := namesV_get hk
  rw [e] at h1; simp at h1)
 exact ⟨b, o, h1, h2, h3 _ _ (namesV_get hk)⟩
theorem getD_get {l : List Rd.Name} {k : Nat} (h : k < l.length) : l[k]? = some (l.getD k []) := by simp [List.getD, List.getElem?_eq_getElem h]
end Go.Proofs.Ytdhhkancbgealaa
end
section
namespace Go.Proofs.Ytdhhkancbgealaa
open Go.RowKit
open Lx
set_option linter.unusedVariables false
set_option linter.unusedSimpArgs false
set_option maxRecDepth 100000
set_option maxHeartbeats 16000000 in
theorem name8_any (v : Value) (T V : List Rd.Name) (i : Int) (B : Nat) (w : World) (h : SymC w B v T V) (hB : B ≤ w.heap.size) (hT : T.length ≤ 1000000) (hV : V.length ≤ 1000000) :
  Calls Try.prog 53 #[v, .int .i64 i] w fun e w' => e = .returned (.string (str (Nm.nameAt T V i))) ∧ Below w.heap.size w w' := by
 have hsym := h
 obtain ⟨A1, c1, A2, c2, A3, n3, c3, A4, n4, c4, A5, n5, c5, A6, n6, c6, rfl, h1, h2⟩ := h.ex
 have hb := (Below.refl w.heap.size w).alloc (Nat.le_refl _) (.cells #[.slice A1 T.length c1, .slice A2 V.length c2, .slice A3 n3 c3, .slice A4 n4 c4, .slice A5 n5 c5, .slice A6 n6 c6] 38)
 have hat := At.new w 38 #[.slice A1 T.length c1, .slice A2 V.length c2, .slice A3 n3 c3, .slice A4 n4 c4, .slice A5 n5 c5, .slice A6 n6 c6]
 have HAC := Lib.hid (fun w' (hw' : Below w.heap.size w w') => accept_any _ T V B w' (hsym.below (hw'.mono hB)) hT hV)
 have HTE := Lib.hid (fun w' (hw' : Below w.heap.size w w') => term_any _ T V i B w' (hsym.below (hw'.mono hB)) hT)
 have HC1 := Lib.hid h1
 have HC2 := Lib.hid h2
 have HNE := Lib.hid (show Nm.nameAt T V i = if i < 0 ∨ (T.length : Int) + (V.length : Int) < i then [] else if i = (T.length : Int) + (V.length : Int) then Nm.accN else if i < (T.length : Int) then T.getD i.toNat [] else V.getD (i - (T.length : Int)).toNat [] from rfl)
 have HG1 := Lib.hid (fun k (hk : k < T.length) => getD_get hk)
 have HG2 := Lib.hid (fun k (hk : k < V.length) => getD_get hk)
 obtain ⟨R, hR⟩ : ∃ R, str (Nm.nameAt T V i) = R := ⟨_, rfl⟩
 have HR := Lib.hid hR
 rw [hR]
 generalize T.length = NT at HAC HTE hb hat hT HNE HG1 ⊢
 generalize V.length = NV at HAC HTE hb hat hV HNE HG2 ⊢
 have HB := Lib.hid hb
 have HAT := Lib.hid hat
 clear h h1 h2 hb hat hR hsym
 by_cases h0 : i < 0
 ·have hr : R = ⟨#[]⟩ := by rw [← HR.out, HNE.out, if_pos (.inl h0)]; rfl
  subst hr
  go_enter Try.func53, Try.ntmps53
  go_wp2_with fail
  go_ret
  exact ⟨rfl, HB.out⟩
 ·go_enter Try.func53, Try.ntmps53
  go_wp2_with fail
  refine (HAC.out _ HB.out).mono ?_
  rintro e w2 ⟨rfl, hb2⟩
  have hat2 := HAT.out.below hb2 HAT.out.lt
  have HAT2 := Lib.hid hat2
  have HB2 := Lib.hid (HB.out.trans (hb2.mono HB.out.size))
  have x0 := hat2.cell 0
  have x1 := hat2.cell 1
  have x2 := hat2.cell 2
  have x3 := hat2.cell 3
  have x4 := hat2.cell 4
  have x5 := hat2.cell 5
  simp only [List.getElem?_toArray, List.getElem?_cons_zero, List.getElem?_cons_succ] at x0 x1 x2 x3 x4 x5
  clear hb2 hat2
  by_cases hhi : (NT : Int) + (NV : Int) < i
  ·have hr : R = ⟨#[]⟩ := by rw [← HR.out, HNE.out, if_pos (.inr hhi)]; rfl
   subst hr
   clear x0 x1 x2 x3 x4 x5
   go_wp2_with fail
   go_ret
   exact ⟨rfl, HB2.out⟩
  ·have HNO := Lib.hid (show ¬ (i < 0 ∨ (NT : Int) + (NV : Int) < i) by omega)
   go_wp2_with fail
   refine (HAC.out _ HB2.out).mono ?_
   rintro e w3 ⟨rfl, hb3⟩
   have hat3 := HAT2.out.below hb3 HAT2.out.lt
   have HAT3 := Lib.hid hat3
   have HB3 := Lib.hid (HB2.out.trans (hb3.mono HB2.out.size))
   have y0 := hat3.cell 0
   have y1 := hat3.cell 1
   have y2 := hat3.cell 2
   have y3 := hat3.cell 3
   have y4 := hat3.cell 4
   have y5 := hat3.cell 5
   simp only [List.getElem?_toArray, List.getElem?_cons_zero, List.getElem?_cons_succ] at y0 y1 y2 y3 y4 y5
   clear hb3 hat3 x0 x1 x2 x3 x4 x5
   by_cases hac : i = (NT : Int) + (NV : Int)
   ·have HRR := Lib.hid (show R = str Nm.accN by rw [← HR.out, HNE.out, if_neg HNO.out, if_pos hac])
    have e1 : (i == (NT : Int) + (NV : Int)) = true := beq_iff_eq.2 hac
    clear hac y0 y1 y2 y3 y4 y5
    go_wp2_with fail
    go_ret
    exact ⟨by rw [HRR.out]; rfl, HB3.out⟩
   ·have e1 : (i == (NT : Int) + (NV : Int)) = false := beq_eq_false_iff_ne.2 hac
    have HAN := Lib.hid hac
    clear hac
    go_wp2_with fail
    clear e1
    by_cases ht : i < (NT : Int)
    ·have hd : decide (0 ≤ i ∧ i < (NT : Int)) = true := decide_eq_true ⟨by omega, ht⟩
     rw [hd] at HTE
     refine (HTE.out _ HB3.out).mono ?_
     rintro e w4 ⟨rfl, hb4⟩
     have hat4 := HAT3.out.below hb4 HAT3.out.lt
     have HB4 := Lib.hid (HB3.out.trans (hb4.mono HB3.out.size))
     have z0 := hat4.cell 0
     simp only [List.getElem?_toArray, List.getElem?_cons_zero] at z0
     obtain ⟨k, hk⟩ : ∃ k : Nat, i = (k : Int) := ⟨i.toNat, by omega⟩
     have hg := HG1.out k (by omega)
     obtain ⟨X, hX⟩ : ∃ X, T.getD k [] = X := ⟨_, rfl⟩
     rw [hX] at hg
     obtain ⟨b, o, rfl, hbb, z9⟩ := cl_get (HC1.out.below (HB4.out.mono hB)) hg
     have HRR := Lib.hid (show R = str X by rw [← HR.out, HNE.out, if_neg HNO.out, if_neg HAN.out, if_pos ht, hk, Int.toNat_natCast, hX])
     have hk0 : (0 : Int) ≤ (k : Int) := by omega
     generalize str X = XX at z9 HRR
     subst hk
     clear hb4 hat4 y0 y1 y2 y3 y4 y5 hg hX hd hhi h0
     go_wp2_with fail
     go_ret
     exact ⟨by rw [HRR.out]; rfl, HB4.out⟩
    ·have hd : decide (0 ≤ i ∧ i < (NT : Int)) = false := decide_eq_false (fun h => ht h.2)
     rw [hd] at HTE
     refine (HTE.out _ HB3.out).mono ?_
     rintro e w4 ⟨rfl, hb4⟩
     have hat4 := HAT3.out.below hb4 HAT3.out.lt
     have HB4 := Lib.hid (HB3.out.trans (hb4.mono HB3.out.size))
     have z0 := hat4.cell 0
     have z1 := hat4.cell 1
     simp only [List.getElem?_toArray, List.getElem?_cons_zero, List.getElem?_cons_succ] at z0 z1
     obtain ⟨k, hk⟩ : ∃ k : Nat, i - (NT : Int) = (k : Int) := ⟨(i - (NT : Int)).toNat, by omega⟩
     have hg := HG2.out k (by have := HAN.out; omega)
     obtain ⟨X, hX⟩ : ∃ X, V.getD k [] = X := ⟨_, rfl⟩
     rw [hX] at hg
     obtain ⟨b, o, rfl, hbb, z9⟩ := cl_get (HC2.out.below (HB4.out.mono hB)) hg
     have HRR := Lib.hid (show R = str X by rw [← HR.out, HNE.out, if_neg HNO.out, if_neg HAN.out, if_neg ht, hk, Int.toNat_natCast, hX])
     have hk0 : (0 : Int) ≤ (k : Int) := by omega
     have hk1 : (k : Int) < (NV : Int) := by have := HAN.out; omega
     have hw : wrap64 (i - (NT : Int)) = (k : Int) := by rw [hk]; unfold wrap64; omega
     generalize str X = XX at z9 HRR
     clear hb4 hat4 y0 y1 y2 y3 y4 y5 hg hX hd hhi h0 ht
     go_wp2_with fail
     go_ret
     exact ⟨by rw [HRR.out]; rfl, HB4.out⟩
end Go.Proofs.Ytdhhkancbgealaa
end
section
namespace Go.Proofs.Ytdhhkancbgealaa
open Go.RowKit
open Lx
set_option linter.unusedVariables false
set_option linter.unusedSimpArgs false
set_option maxRecDepth 100000
end Go.Proofs.Ytdhhkancbgealaa
namespace Go.Proofs.Ytdhhkancbgealaa
open Go.RowKit
open Lx
set_option linter.unusedVariables false
set_option linter.unusedSimpArgs false
set_option maxRecDepth 100000
theorem own_built (w : World) (cs : List Value) (e : TypeId) (h : cs.length ≤ maxLen) : (w.alloc (.cells cs.toArray e)).ownsRow w.heap.size e 1 (.slice (some ⟨w.heap.size, 0, none⟩) cs.length cs.length) cs.length cs :=
 ⟨(Nat.mul_one _).symm, .inr ⟨w.heap.size, cs.length, cs.toArray, rfl, Nat.le_refl _, At.new w e cs.toArray, Nat.le_refl _, h, by simp, by simp⟩⟩
end Go.Proofs.Ytdhhkancbgealaa
end
