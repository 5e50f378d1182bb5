import Derived.Test.YtdhhkancbgealaaGreatT34
import Derived.Test.YtdhhkancbgealaaGreatT09
import Derived.Test.YtdhhkancbgealaaGreatT18
import Derived.Deep.RegionLaw
section
/-
  The walk over tronagelaw18.few.
-/
namespace Go.Proofs.YtdhhkancbgealaaGreat
open Go.RowKit
open Lx
set_option linter.unusedVariables false
set_option linter.unusedSimpArgs false
set_option maxRecDepth 100000

/-- Are calls of a size that is looked at? -/
def Tr.few (l : List Tr.Op) : Bool := l.all (fun o => decide (o.ks.length ≤ 10)) && decide (l.length ≤ 40)
theorem opC_len (p : Tr.Op × Value) : (opC p).length = 7 := rfl
theorem OpsC.below {w w' : World} {B : Nat} {v : Value} {l : List Tr.Op} (h : OpsC w B v l) (hb : Below B w w') : OpsC w' B v l := by
  obtain ⟨A, c, ql, e, h1, h2, h3⟩ := h
  exact ⟨A, c, ql, e, h1.below hb, h2, fun p hp => by
    obtain ⟨A', c', e', k1, k2⟩ := h3 p hp
    exact ⟨A', c', e', k1, k2.below hb⟩⟩
/-- One call's cells. -/
theorem OpsC.at_ {w : World} {B : Nat} {A : Option Addr} {n c : Nat} {l : List Tr.Op} (h : OpsC w B (.slice A n c) l) {i : Nat} {o : Tr.Op} (ho : l[i]? = some o) :
    ∃ b q, A = some ⟨b, q, none⟩ ∧ b < B ∧ ∃ A' c', IntZ w B (.slice A' o.ks.length c') o.ks ∧ ∀ r u, (opC (o, .slice A' o.ks.length c'))[r]? = some u → w.cell? ⟨b, q + (i * 7 + r), none⟩ = some u := by
  obtain ⟨A1, c1, ql, e, h1, h2, h3⟩ := h
  simp only [Value.slice.injEq] at e
  obtain ⟨rfl, _, _⟩ := e
  rw [← h2, List.getElem?_map] at ho
  obtain ⟨⟨po, pv⟩, hp, e2⟩ := Option.map_eq_some_iff.1 ho
  obtain rfl : po = o := e2
  have hI := h3 _ (List.mem_of_getElem? hp)
  obtain ⟨A', c', e3, k1, k2⟩ := hI
  dsimp only at e3
  subst e3
  have hne : ql.flatMap opC ≠ [] := fun e => by
    have := flatN_at opC 7 opC_len ql i 0 _ hp (by omega)
    rw [e] at this; simp [opC] at this
  obtain ⟨b, q, e4, hb, hc⟩ := h1.ex hne
  refine ⟨b, q, e4, hb, A', c', ⟨A', c', rfl, k1, k2⟩, fun r u hu => hc _ _ ?_⟩
  have hr : r < 7 := by
    have := (List.getElem?_eq_some_iff.1 hu).1
    rw [opC_len] at this; exact this
  rw [flatN_at opC 7 opC_len ql i r _ hp hr]; exact hu

set_option maxHeartbeats 4000000 in
theorem few18_any (v : Value) (l : List Tr.Op) (B : Nat) (w : World) (h : OpsC w B v l) (hB : B ≤ w.heap.size) (hn : l.length ≤ 140737488355328) (hk : ∀ o ∈ l, o.ks.length ≤ 140737488355328) :
    Calls Tryz.prog 8 #[v] w fun e w' => e = .returned (.bool (Tr.few l)) ∧ Below w.heap.size w w' := by
  obtain ⟨A, c, ql, rfl, _⟩ := id h
  have H := Lib.hid h
  have HK := Lib.hid hk
  obtain ⟨Q, hQ⟩ : ∃ Q, Tr.few l = Q := ⟨_, rfl⟩
  rw [hQ]
  have HQ := Lib.hid hQ
  obtain ⟨n, hN⟩ : ∃ n, l.length = n := ⟨_, rfl⟩
  rw [hN] at H hn ⊢
  have HN := Lib.hid hN
  clear h hQ hN hk
  go_enter Tryz.func8, Tryz.ntmps8
  go_wp2_with fail
  go_loopw [3] (fun i wr => ∃ j : Nat, j ≤ n ∧ i = .int .i64 (j : Int) ∧ (l.take j).all (fun o => decide (o.ks.length ≤ 10)) = true ∧ ∃ q, wr = w.drewN q) (fun i _ => n - (intOf i).toNat)
  case atStart => exact ⟨0, by omega, rfl, by simp, 0, rfl⟩
  case round =>
    obtain ⟨j, hj, rfl, ha, q, rfl⟩ := hrel
    have HA := Lib.hid ha
    clear ha
    by_cases hlt : j < n
    · obtain ⟨o, ho⟩ : ∃ o, l[j]? = some o := ⟨_, List.getElem?_eq_getElem (by rw [HN.out]; exact hlt)⟩
      obtain ⟨b, p, rfl, hb, A', c', hI, hc⟩ := H.out.at_ ho
      have y6 := hc 6 (.slice A' o.ks.length c') rfl
      rw [← Nat.add_assoc] at y6
      have hbl : b < w.heap.size := by omega
      have hkl := HK.out o (List.mem_of_getElem? ho)
      obtain ⟨kn, hkn⟩ : ∃ kn, o.ks.length = kn := ⟨_, rfl⟩
      rw [hkn] at y6 hkl
      have hji : (j : Int) < (n : Int) := by omega
      have hj0 : (0 : Int) ≤ (j : Int) := by omega
      have HO := Lib.hid ho
      have HKN := Lib.hid hkn
      clear hc hI ho hkn
      by_cases hten : 10 < kn
      · have ht : (10 : Int) < (kn : Int) := by omega
        have hq : Q = false := by
          rw [← HQ.out]
          unfold Tr.few
          have : l.all (fun o => decide (o.ks.length ≤ 10)) = false := List.all_eq_false.2 ⟨o, List.mem_of_getElem? HO.out, by rw [HKN.out]; simp; omega⟩
          rw [this]; rfl
        subst hq
        go_wp2_with fail
        go_ret
        exact ⟨rfl, below_drewN (Below.refl _ _) _⟩
      · have ht : ¬ (10 : Int) < (kn : Int) := by omega
        go_wp2_with fail
        go_roundw
        case rel => exact ⟨j + 1, by omega, by go_num, by rw [List.take_add_one, HO.out, List.all_append, HA.out]; simp; rw [HKN.out]; omega, _, rfl⟩
        case measure => simp [intOf]; omega
    · obtain rfl : n = j := by omega
      rw [List.take_of_length_le (by rw [HN.out]; exact Nat.le_refl _)] at HA
      have hq : Q = decide (n ≤ 40) := by rw [← HQ.out]; unfold Tr.few; rw [HA.out, HN.out]; rfl
      by_cases h40 : n ≤ 40
      · have h4 : (n : Int) ≤ 40 := by omega
        rw [decide_eq_true h40] at hq
        subst hq
        go_wp2_with fail
        go_ret
        exact ⟨rfl, below_drewN (Below.refl _ _) _⟩
      · have h4 : ¬ (n : Int) ≤ 40 := by omega
        rw [decide_eq_false h40] at hq
        subst hq
        go_wp2_with fail
        go_ret
        exact ⟨rfl, below_drewN (Below.refl _ _) _⟩
end Go.Proofs.YtdhhkancbgealaaGreat
end
section
/-
  The walk over tronagelaw18.told.
-/
namespace Go.Proofs.YtdhhkancbgealaaGreat
open Go.RowKit Go.Shelf
open Lx
set_option linter.unusedVariables false
set_option linter.unusedSimpArgs false
set_option maxRecDepth 100000

/-- The cells of a node's kids, handed in (below B) or made by a call. -/
def KOk (w : World) (B : Nat) (A : Option Addr) (ks : List Int) : Prop := (Cl w B A (vals ks) ∧ B ≤ w.heap.size) ∨ Lie w 3 A (vals ks)
theorem KOk.step {w w' : World} {B : Nat} {A : Option Addr} {ks : List Int} {ts : List TypeId} (h : KOk w B A ks) (hs : Spares ts w w') (hi : 3 ∉ ts) (hb : Below B w w') : KOk w' B A ks := by
  rcases h with ⟨h, h2⟩ | h
  · exact .inl ⟨h.below hb, Nat.le_trans h2 hb.size⟩
  · exact .inr (h.stay (stay_spares hs hi))
theorem KOk.cl {w : World} {B : Nat} {A : Option Addr} {ks : List Int} (h : KOk w B A ks) : Cl w w.heap.size A (vals ks) := by
  rcases h with ⟨h, h2⟩ | h
  · exact h.mono h2
  · exact h.cl
theorem KOk.below {w w' : World} {B : Nat} {A : Option Addr} {ks : List Int} (h : KOk w B A ks) (hb : Below w.heap.size w w') : KOk w' B A ks := by
  rcases h with ⟨h, h2⟩ | h
  · exact .inl ⟨h.below (hb.mono h2), Nat.le_trans h2 hb.size⟩
  · exact .inr (h.below hb)
theorem sizeOp18 : (Tryz.prog.info? 52).map (·.size) = some 7 := by kernel_rfl

set_option maxHeartbeats 8000000 in
theorem told_any (pv : Value) (P : Nm.Plan) (o : Tr.Op) (A : Option Addr) (c : Nat) (w : World) (B0 B rt rm : Nat) (l m : Int) (v : Value) (S : List Sl) (hp : PlanR w pv P) (hP : PlanS P) (h : RefIs w B rt rm l m v S) (hI : inI o.r) (hK : KOk w B0 A o.ks) (hc : o.ks.length ≤ c) :
    Calls Tryz.prog 14 #[pv, .pointer (some ⟨rt, 0, none⟩), .agg (opC (o, .slice A o.ks.length c)).toArray] w fun e w' => ∃ A' c', e = .returned (.agg (opC (Tr.told P (nds S) o, .slice A' (Tr.told P (nds S) o).ks.length c')).toArray) ∧
      KOk w' B0 A' (Tr.told P (nds S) o).ks ∧ (Tr.told P (nds S) o).ks.length ≤ c' ∧ Below w.heap.size w w' := by
  obtain ⟨P1, c1, P2, c2, P3, c3, P4, c4, P5, c5, P6, c6, rfl, q1, q2, ⟨pl, q3, q4, q5⟩⟩ := hp.ex
  obtain ⟨d, r, s, ⟨x1, x2, x3⟩, ks⟩ := o
  dsimp only at hI hK hc
  obtain ⟨n3, hn3⟩ : ∃ n, P.rules.length = n := ⟨_, rfl⟩
  have htwo := hP.two
  rw [hn3] at htwo
  generalize P.terms.length = n1
  generalize P.vars.length = n2
  generalize P.levels.length = n4
  generalize P.assocs.length = n5
  generalize P.acts.length = n6
  rw [hn3]
  show Calls _ _ #[.agg #[.slice P1 n1 c1, .slice P2 n2 c2, .slice P3 n3 c3, .slice P4 n4 c4, .slice P5 n5 c5, .slice P6 n6 c6], .pointer (some ⟨rt, 0, none⟩), .agg #[.int .i64 d, .int .i64 r, .int .i64 s, .int .i64 x1, .int .i64 x2, .int .i64 x3, .slice A ks.length c]] w _
  obtain ⟨kn, hkn⟩ : ∃ kn, ks.length = kn := ⟨_, rfl⟩
  rw [hkn] at hc ⊢
  obtain ⟨W, hW⟩ : ∃ W, ((w.alloc (.cells #[.slice P1 n1 c1, .slice P2 n2 c2, .slice P3 n3 c3, .slice P4 n4 c4, .slice P5 n5 c5, .slice P6 n6 c6] 34)).alloc (.cells #[.int .i64 d, .int .i64 r, .int .i64 s, .int .i64 x1, .int .i64 x2, .int .i64 x3, .slice A kn c] 52)).alloc (.cells #[.int .i64 0, .int .i64 0, .int .i64 0, .int .i64 0, .int .i64 0, .int .i64 0, .slice none 0 0] 52) = W := ⟨_, rfl⟩
  have a1 := ((At.new w 34 #[.slice P1 n1 c1, .slice P2 n2 c2, .slice P3 n3 c3, .slice P4 n4 c4, .slice P5 n5 c5, .slice P6 n6 c6]).alloc (.cells #[.int .i64 d, .int .i64 r, .int .i64 s, .int .i64 x1, .int .i64 x2, .int .i64 x3, .slice A kn c] 52)).alloc (.cells #[.int .i64 0, .int .i64 0, .int .i64 0, .int .i64 0, .int .i64 0, .int .i64 0, .slice none 0 0] 52)
  have a3 := At.new ((w.alloc (.cells #[.slice P1 n1 c1, .slice P2 n2 c2, .slice P3 n3 c3, .slice P4 n4 c4, .slice P5 n5 c5, .slice P6 n6 c6] 34)).alloc (.cells #[.int .i64 d, .int .i64 r, .int .i64 s, .int .i64 x1, .int .i64 x2, .int .i64 x3, .slice A kn c] 52)) 52 #[.int .i64 0, .int .i64 0, .int .i64 0, .int .i64 0, .int .i64 0, .int .i64 0, .slice none 0 0]
  have hb : Below w.heap.size w W := by
    rw [← hW]
    exact (((Below.refl w.heap.size w).alloc (Nat.le_refl _) _).alloc (by simp) _).alloc (by simp; omega) _
  rw [hW] at a1 a3
  simp only [World.size_alloc] at a3
  have hs := hb.size
  have hKW := hK.below hb
  have HKW := Lib.hid hKW
  have HK0 := Lib.hid hK
  have HW := Lib.hid hW
  have HBW := Lib.hid hb
  have HA3 := Lib.hid a3
  have HKN := Lib.hid hkn
  have h3l := a3.lt
  by_cases hd : d = 4
  case neg =>
    have hd1 : (d == 4) = false := by simpa using hd
    have ht : Tr.told P (nds S) ⟨d, r, s, ⟨x1, x2, x3⟩, ks⟩ = ⟨d, r, s, ⟨x1, x2, x3⟩, ks⟩ := by unfold Tr.told; exact if_neg hd
    rw [ht]
    dsimp only [opC]
    rw [hkn]
    have HC := Lib.hid hc
    clear hp hP h hI hK hc q1 q2 q3 q4 q5 hn3 htwo a1 a3 hb hW hKW ht hkn
    go_enter Tryz.func14, Tryz.ntmps14
    go_wp2_with (rw [HW.out]; refine wpList_store_at rfl _ _ _ rfl rfl (w.heap.size + 1 + 1) _ _ [_, _, _, _, _, _, _] rfl rfl HA3.out 7 sizeOp18 rfl rfl rfl ?_; intro w3 hA3 hg3)
    have hb3 := below_grown HBW.out hg3 hs (show w.heap.size ≤ w.heap.size + 1 + 1 by omega)
    refine bodyPost_ret (results_cell_row rfl _ _ (w.heap.size + 1 + 1) _ _ (0, 0) _ rfl hA3 Tryz.underlying52 rfl sizeOp18) rfl ⟨A, c, rfl, HK0.out.below hb3, HC.out, hb3⟩
  case pos =>
    subst hd
    obtain ⟨k, hk⟩ : ∃ k : Nat, Tr.toldR P ⟨4, r, s, ⟨x1, x2, x3⟩, ks⟩ = (k : Int) := by
      have := Tr.toldR_in hP.two.1 ⟨4, r, s, ⟨x1, x2, x3⟩, ks⟩
      exact ⟨_, (Int.toNat_of_nonneg (by omega)).symm⟩
    have hkr := Tr.toldR_in hP.two.1 ⟨4, r, s, ⟨x1, x2, x3⟩, ks⟩
    rw [hk, hn3] at hkr
    have hpl : pl.length = n3 := by rw [← hn3, ← q4, List.length_map]
    obtain ⟨⟨pi, pw⟩, hpk⟩ : ∃ p, pl[k]? = some p := ⟨_, List.getElem?_eq_getElem (by omega)⟩
    have hpr : Tr.toldP P ⟨4, r, s, ⟨x1, x2, x3⟩, ks⟩ = pi := by
      unfold Tr.toldP
      rw [hk, ← q4, List.getD_eq_getElem?_getD, Int.toNat_natCast, List.getElem?_map, hpk]; rfl
    have hrl := hP.right pi (by rw [← q4]; exact List.mem_map.2 ⟨_, List.mem_of_getElem? hpk, rfl⟩)
    obtain ⟨RA, rc, hpw, hRA⟩ := q5 _ (List.mem_of_getElem? hpk)
    dsimp only at hpw hRA
    subst hpw
    have q3W := q3.below hb
    obtain ⟨b, o, rfl, hbl, y0, y1, y2⟩ := prods_at q3W hpk
    dsimp only at y0 y1 y2
    have ht : Tr.told P (nds S) ⟨4, r, s, ⟨x1, x2, x3⟩, ks⟩ = ⟨2, k, pi.left, Tr.Tok.zero, Tr.lastKids (nds S) pi.right.length⟩ := by unfold Tr.told; rw [if_pos rfl, hk, hpr]
    rw [ht]
    dsimp only [opC, Tr.Tok.zero]
    have hRW := h.below hb
    have hKD := kids_any pi.right.length W.drew B rt rm l m v S (hRW.below (below_drew (Below.refl _ _))) (by omega)
    unfold Tr.toldR at hk
    rw [hn3] at hk
    dsimp only at hk
    obtain ⟨N, hN⟩ : ∃ N : Int, (n3 : Int) - 1 = N := ⟨_, rfl⟩
    rw [hN] at hk
    have hNp : 0 < N ∧ N ≤ 99 := by omega
    have hw1 : IntKind.i64.wrap ((n3 : Int) - 1) = N := by rw [IntKind.wrap_i64]; omega
    have t1 := Int.lt_tmod_of_pos r hNp.1
    have t1' := Int.tmod_lt_of_pos r hNp.1
    have t2 : 0 ≤ r.tmod N + N := by omega
    have t3 := Int.tmod_nonneg N t2
    have t4 := Int.tmod_lt_of_pos (r.tmod N + N) hNp.1
    have hw2 : IntKind.i64.wrap (r.tmod N) = r.tmod N := by rw [IntKind.wrap_i64]; omega
    have hw3 : IntKind.i64.wrap (r.tmod N + N) = r.tmod N + N := by rw [IntKind.wrap_i64]; omega
    have hw4 : IntKind.i64.wrap ((r.tmod N + N).tmod N) = (r.tmod N + N).tmod N := by rw [IntKind.wrap_i64]; omega
    have hw5 : IntKind.i64.wrap (1 + (r.tmod N + N).tmod N) = (k : Int) := by rw [IntKind.wrap_i64]; omega
    have hN0 : ¬ N = 0 := by omega
    have hN1 : (N == 0) = false := by simpa using hN0
    have p2 := a1.cell 2
    simp only [List.getElem?_toArray, List.getElem?_cons_zero, List.getElem?_cons_succ] at p2
    obtain ⟨KL, hKL⟩ : ∃ x, Tr.lastKids (nds S) pi.right.length = x := ⟨_, rfl⟩
    rw [hKL] at hKD ⊢
    obtain ⟨rn, hrn⟩ : ∃ n, pi.right.length = n := ⟨_, rfl⟩
    rw [hrn] at y1 hKD hrl
    obtain ⟨PL, hPL⟩ : ∃ z, pi.left = z := ⟨_, rfl⟩
    rw [hPL] at y0 ⊢
    have HKD := Lib.hid hKD
    have h1l := a1.lt
    have hk0 : (0 : Int) ≤ (k : Int) := by omega
    have hkn3 : (k : Int) < (n3 : Int) := by omega
    clear hp hP h hI hK hc q1 q2 q3 q4 q5 hn3 htwo a1 a3 hb hW hKW ht hkn hpr hpl hpk hRA q3W hRW hKD hk t1 t1' t2 t3 t4 hKL hrn hPL
    go_enter Tryz.func14, Tryz.ntmps14
    go_upto_region 5 with (fail)
    rw [HW.out]
    have hz0 : W.drew.cell? ⟨w.heap.size, 2, none⟩ = some (.slice (some ⟨b, o, none⟩) n3 c3) ∧ W.drew.cell? ⟨b, o + k * 3, none⟩ = some (.int .i64 PL) ∧ W.drew.cell? ⟨b, o + k * 3 + 1, none⟩ = some (.slice RA rn rc) := ⟨p2, y0, y1⟩
    refine Zed.begin_ (fun w' => w'.cell? ⟨w.heap.size, 2, none⟩ = some (.slice (some ⟨b, o, none⟩) n3 c3) ∧ w'.cell? ⟨b, o + k * 3, none⟩ = some (.int .i64 PL) ∧ w'.cell? ⟨b, o + k * 3 + 1, none⟩ = some (.slice RA rn rc)) [17] (by kernel_rfl) ?_
    refine Zd.pureD (i := 0) (d := some 26) (v := ?vn0) rfl rfl (by kernel_rfl) (by kernel_rfl) (by kernel_rfl) (by kernel_rfl) (by kernel_rfl) (fun _ _ _ h => h) (Or.inl ⟨by kernel_rfl, ?hyn0⟩) (.inr hz0) ?restn0
    case hyn0 => (intro w _; go_simp; try with_reducible rfl)
    try simp only [Act.put, List.setIfInBounds_toArray, List.set_cons_zero, List.set_cons_succ]
    refine Zd.pureD (i := 1) (d := some 27) (v := ?vn1) rfl rfl (by kernel_rfl) (by kernel_rfl) (by kernel_rfl) (by kernel_rfl) (by kernel_rfl) (fun _ _ _ h => h) (Or.inl ⟨by kernel_rfl, ?hyn1⟩) (.inr hz0) ?restn1
    case hyn1 => (intro w _; go_simp; try with_reducible rfl)
    try simp only [Act.put, List.setIfInBounds_toArray, List.set_cons_zero, List.set_cons_succ]
    refine Zd.takeD (i := 2) (d := some 28) (v := ?vn2) rfl rfl (by kernel_rfl) (by kernel_rfl) (by kernel_rfl) (by kernel_rfl) (by kernel_rfl) (fun _ _ _ h => h) (Or.inl ⟨by kernel_rfl, ?hyn2⟩) hz0 ?restn2
    case hyn2 => (intro w hSw; (try dsimp only at hSw); obtain ⟨u1, u2, u3⟩ := hSw; go_simp; try with_reducible rfl)
    try simp only [Act.put, List.setIfInBounds_toArray, List.set_cons_zero, List.set_cons_succ]
    refine Zd.pureD (i := 3) (d := some 29) (v := ?vn3) rfl rfl (by kernel_rfl) (by kernel_rfl) (by kernel_rfl) (by kernel_rfl) (by kernel_rfl) (fun _ _ _ h => h) (Or.inl ⟨by kernel_rfl, ?hyn3⟩) (.inr hz0) ?restn3
    case hyn3 => (intro w _; go_simp; try with_reducible rfl)
    try simp only [Act.put, List.setIfInBounds_toArray, List.set_cons_zero, List.set_cons_succ]
    refine Zd.pureD (i := 4) (d := some 30) (v := ?vn4) rfl rfl (by kernel_rfl) (by kernel_rfl) (by kernel_rfl) (by kernel_rfl) (by kernel_rfl) (fun _ _ _ h => h) (Or.inl ⟨by kernel_rfl, ?hyn4⟩) (.inr hz0) ?restn4
    case hyn4 => (intro w _; go_simp; try with_reducible rfl)
    try simp only [Act.put, List.setIfInBounds_toArray, List.set_cons_zero, List.set_cons_succ]
    refine Zd.pureD (i := 5) (d := some 31) (v := ?vn5) rfl rfl (by kernel_rfl) (by kernel_rfl) (by kernel_rfl) (by kernel_rfl) (by kernel_rfl) (fun _ _ _ h => h) (Or.inl ⟨by kernel_rfl, ?hyn5⟩) (.inr hz0) ?restn5
    case hyn5 => (intro w _; go_simp; try with_reducible rfl)
    try simp only [Act.put, List.setIfInBounds_toArray, List.set_cons_zero, List.set_cons_succ]
    refine Zd.takeD (i := 6) (d := some 32) (v := ?vn6) rfl rfl (by kernel_rfl) (by kernel_rfl) (by kernel_rfl) (by kernel_rfl) (by kernel_rfl) (fun _ _ _ h => h) (Or.inl ⟨by kernel_rfl, ?hyn6⟩) hz0 ?restn6
    case hyn6 => (intro w hSw; (try dsimp only at hSw); obtain ⟨u1, u2, u3⟩ := hSw; go_simp; try with_reducible rfl)
    try simp only [Act.put, List.setIfInBounds_toArray, List.set_cons_zero, List.set_cons_succ]
    refine Zd.pureD (i := 7) (d := some 33) (v := ?vn7) rfl rfl (by kernel_rfl) (by kernel_rfl) (by kernel_rfl) (by kernel_rfl) (by kernel_rfl) (fun _ _ _ h => h) (Or.inl ⟨by kernel_rfl, ?hyn7⟩) (.inr hz0) ?restn7
    case hyn7 => (intro w _; go_simp; try with_reducible rfl)
    try simp only [Act.put, List.setIfInBounds_toArray, List.set_cons_zero, List.set_cons_succ]
    refine Zd.pureD (i := 8) (d := some 34) (v := ?vn8) rfl rfl (by kernel_rfl) (by kernel_rfl) (by kernel_rfl) (by kernel_rfl) (by kernel_rfl) (fun _ _ _ h => h) (Or.inl ⟨by kernel_rfl, ?hyn8⟩) (.inr hz0) ?restn8
    case hyn8 => (intro w _; go_simp; try with_reducible rfl)
    try simp only [Act.put, List.setIfInBounds_toArray, List.set_cons_zero, List.set_cons_succ]
    refine Zd.takeD (i := 9) (d := some 35) (v := ?vn9) rfl rfl (by kernel_rfl) (by kernel_rfl) (by kernel_rfl) (by kernel_rfl) (by kernel_rfl) (fun _ _ _ h => h) (Or.inl ⟨by kernel_rfl, ?hyn9⟩) hz0 ?restn9
    case hyn9 => (intro w hSw; (try dsimp only at hSw); obtain ⟨u1, u2, u3⟩ := hSw; go_simp; try with_reducible rfl)
    try simp only [Act.put, List.setIfInBounds_toArray, List.set_cons_zero, List.set_cons_succ]
    refine Zd.pureD (i := 10) (d := some 36) (v := ?vn10) rfl rfl (by kernel_rfl) (by kernel_rfl) (by kernel_rfl) (by kernel_rfl) (by kernel_rfl) (fun _ _ _ h => h) (Or.inl ⟨by kernel_rfl, ?hyn10⟩) (.inr hz0) ?restn10
    case hyn10 => (intro w _; go_simp; try with_reducible rfl)
    try simp only [Act.put, List.setIfInBounds_toArray, List.set_cons_zero, List.set_cons_succ]
    refine Zd.pureD (i := 11) (d := some 37) (v := ?vn11) rfl rfl (by kernel_rfl) (by kernel_rfl) (by kernel_rfl) (by kernel_rfl) (by kernel_rfl) (fun _ _ _ h => h) (Or.inl ⟨by kernel_rfl, ?hyn11⟩) (.inr hz0) ?restn11
    case hyn11 => (intro w _; go_simp; try with_reducible rfl)
    try simp only [Act.put, List.setIfInBounds_toArray, List.set_cons_zero, List.set_cons_succ]
    refine Zd.pureD (i := 12) (d := some 38) (v := ?vn12) rfl rfl (by kernel_rfl) (by kernel_rfl) (by kernel_rfl) (by kernel_rfl) (by kernel_rfl) (fun _ _ _ h => h) (Or.inl ⟨by kernel_rfl, ?hyn12⟩) (.inr hz0) ?restn12
    case hyn12 => (intro w _; go_simp; try with_reducible rfl)
    try simp only [Act.put, List.setIfInBounds_toArray, List.set_cons_zero, List.set_cons_succ]
    refine Zd.takeD (i := 13) (d := some 39) (v := ?vn13) rfl rfl (by kernel_rfl) (by kernel_rfl) (by kernel_rfl) (by kernel_rfl) (by kernel_rfl) (fun _ _ _ h => h) (Or.inl ⟨by kernel_rfl, ?hyn13⟩) hz0 ?restn13
    case hyn13 => (intro w hSw; (try dsimp only at hSw); obtain ⟨u1, u2, u3⟩ := hSw; go_simp; try with_reducible rfl)
    try simp only [Act.put, List.setIfInBounds_toArray, List.set_cons_zero, List.set_cons_succ]
    refine Zd.pureD (i := 14) (d := some 40) (v := ?vn14) rfl rfl (by kernel_rfl) (by kernel_rfl) (by kernel_rfl) (by kernel_rfl) (by kernel_rfl) (fun _ _ _ h => h) (Or.inl ⟨by kernel_rfl, ?hyn14⟩) (.inr hz0) ?restn14
    case hyn14 => (intro w _; go_simp; try with_reducible rfl)
    try simp only [Act.put, List.setIfInBounds_toArray, List.set_cons_zero, List.set_cons_succ]
    refine Zd.call (i := 15) (d := some 41) (by kernel_rfl) rfl rfl (by kernel_rfl) (by kernel_rfl) HKD.out ?_
    rintro e w2 ⟨A5, c5', rfl, hc5, hl5, hb5⟩
    have HL5 := Lib.hid hl5
    have HB5 := Lib.hid (HBW.out.trans (((below_drew (Below.refl W.heap.size W)).trans (hb5.mono (by simp))).mono hs))
    have hbW5 : Below W.heap.size W w2 := (below_drew (Below.refl W.heap.size W)).trans (hb5.mono (by simp))
    have hz1 : w2.cell? ⟨w.heap.size, 2, none⟩ = some (.slice (some ⟨b, o, none⟩) n3 c3) ∧ w2.cell? ⟨b, o + k * 3, none⟩ = some (.int .i64 PL) ∧ w2.cell? ⟨b, o + k * 3 + 1, none⟩ = some (.slice RA rn rc) :=
      ⟨(hbW5.cell (p := ⟨w.heap.size, 2, none⟩) h1l).trans p2, (hbW5.cell (p := ⟨b, o + k * 3, none⟩) hbl).trans y0, (hbW5.cell (p := ⟨b, o + k * 3 + 1, none⟩) hbl).trans y1⟩
    have HA5 := Lib.hid (HA3.out.below hbW5 h3l)
    have hsW5 := hbW5.size
    obtain ⟨kl, hkl⟩ : ∃ kl, KL.length = kl := ⟨_, rfl⟩
    rw [hkl] at hc5 ⊢
    have HC5 := Lib.hid hc5
    have HKL := Lib.hid hkl
    clear hc5 hl5 hb5 hbW5 HKD hkl
    refine ⟨_, rfl, hz1, ?_⟩
    try simp only [Act.put, List.setIfInBounds_toArray, List.set_cons_zero, List.set_cons_succ]
    refine Zd.pureD (i := 16) (d := some 42) (v := ?vn16) rfl rfl (by kernel_rfl) (by kernel_rfl) (by kernel_rfl) (by kernel_rfl) (by kernel_rfl) (fun _ _ _ h => h) (Or.inl ⟨by kernel_rfl, ?hyn16⟩) (.inr hz1) ?restn16
    case hyn16 => (intro w _; go_simp; try with_reducible rfl)
    try simp only [Act.put, List.setIfInBounds_toArray, List.set_cons_zero, List.set_cons_succ]
    refine Zed.one (i := 17) (by kernel_rfl) rfl (fun K hK => ?_)
    rw [if_pos (by kernel_rfl)]
    refine wp_store_row 52 _ _ rfl (w.heap.size + 1 + 1) _ rfl rfl _ _ HA5.out (by kernel_rfl) rfl (by simp [Value.oneCell']) ?_
    refine hK.out _ _ (.inl (by kernel_rfl)) ?_
    clear hK K
    try simp only [Act.put, List.setIfInBounds_toArray, List.set_cons_zero, List.set_cons_succ]
    refine Zed.all (by kernel_rfl) ?_ _
    have hg9 : w2.grownBy (w2.setRow (w.heap.size + 1 + 1) #[.int .i64 2, .int .i64 (k : Int), .int .i64 PL, .int .i64 0, .int .i64 0, .int .i64 0, .slice A5 kl c5']) (some (w.heap.size + 1 + 1)) := ⟨rfl, rfl, rfl, by simp, fun j _ hj => setRow_other _ _ j _ (fun e => hj (by simp [e]))⟩
    have hA9 : At (w2.setRow (w.heap.size + 1 + 1) #[.int .i64 2, .int .i64 (k : Int), .int .i64 PL, .int .i64 0, .int .i64 0, .int .i64 0, .slice A5 kl c5']) (w.heap.size + 1 + 1) 52 _ := setRow_heap w2 _ _ _ _ (0, 0) HA5.out
    have hl9 : Lie (w2.setRow (w.heap.size + 1 + 1) #[.int .i64 2, .int .i64 (k : Int), .int .i64 PL, .int .i64 0, .int .i64 0, .int .i64 0, .slice A5 kl c5']) 3 A5 (vals KL) := HL5.out.stay (Stay.far HA5.out (by decide) hg9)
    have HG9 := Lib.hid hg9
    have HA9 := Lib.hid hA9
    have HL9 := Lib.hid hl9
    obtain ⟨w9, hw9⟩ : ∃ w9, w2.setRow (w.heap.size + 1 + 1) #[.int .i64 2, .int .i64 (k : Int), .int .i64 PL, .int .i64 0, .int .i64 0, .int .i64 0, .slice A5 kl c5'] = w9 := ⟨_, rfl⟩
    rw [hw9] at HG9 HA9 HL9 ⊢
    clear hg9 hA9 hl9 hw9 hz0 hz1
    go_wp2_with fail
    refine bodyPost_ret (results_cell_row rfl _ _ (w.heap.size + 1 + 1) _ _ (0, 0) _ rfl HA9.out Tryz.underlying52 rfl sizeOp18) rfl ⟨A5, c5', by rw [HKL.out], .inr HL9.out, by rw [HKL.out]; exact HC5.out, below_grown HB5.out HG9.out (Nat.le_trans hs hsW5) (by omega)⟩

end Go.Proofs.YtdhhkancbgealaaGreat
end
