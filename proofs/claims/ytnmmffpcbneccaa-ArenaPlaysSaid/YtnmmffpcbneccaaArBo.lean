/-
  The walk over 'done': what is done to the arena and to the document's arena, one beside the other.
-/
import Derived.Test.YtnmmffpcbneccaaArRef3
import Derived.BigQuiet
import Derived.Deep.QuietTactic
import Derived.Deep.RegionWith
import Derived.BigRegion
namespace Go.Proofs.Ytnmmffpcbneccaa
open Go.RowKit
set_option linter.unusedVariables false

/-- Both hold the same. -/
structure Bo (w0 : World) (g mb rg rm : Nat) (w : World) (l : Int) (L : List (Int × Int)) : Prop where
  one : OneI w0 g mb w l L
  ref : RfO w0 rg rm w l L

section
variable {w0 w : World} {g mb rg rm : Nat} {l : Int} {L M : List (Int × Int)}
theorem Bo.drewN (h : Bo w0 g mb rg rm w l L) (n : Nat) : Bo w0 g mb rg rm (w.drewN n) l L := ⟨OneI.drewN _ _ _ _ _ _ h.one n, h.ref.drewN n⟩
theorem Bo.drew (h : Bo w0 g mb rg rm w l L) : Bo w0 g mb rg rm w.drew l L := h.drewN 1
theorem Bo.alloc (h : Bo w0 g mb rg rm w l L) (o : Obj) : Bo w0 g mb rg rm (w.alloc o) l L :=
  have hb := h.one.bel.alloc h.one.bel.size o
  ⟨h.one.spares (ts := []) ((Spares.refl _ _).alloc _) hb (by simp), h.ref.spares (ts := []) ((Spares.refl _ _).alloc _) hb (by simp)⟩

theorem cutA (n : Int) (hn : -9223372036854775808 ≤ n ∧ n ≤ 9223372036854775807) (h : OneI w0 g mb w l L) (r : RfO w0 rg rm w l M) :
    Calls Try.prog 25 #[.pointer (some ⟨g, 0, none⟩), .int .i64 n] w fun e w' => e = .returned (.int .i64 (tot (L.drop (cutAt n L.length)))) ∧ OneI w0 g mb w' l (L.take (cutAt n L.length)) ∧ RfO w0 rg rm w' l M ∧ Spares artI w w' := by
  refine (oneI_cut_sp _ _ _ _ _ _ h n hn _ _ rfl rfl).mono ?_
  rintro e w' ⟨he, h1, hs⟩
  exact ⟨he, h1, r.spares hs h1.bel (by decide), hs⟩
theorem cutR (n : Int) (hn : -9223372036854775808 ≤ n ∧ n ≤ 9223372036854775807) (h : OneI w0 g mb w l M) (r : RfO w0 rg rm w l L) :
    Calls Try.prog 32 #[.pointer (some ⟨rg, 0, none⟩), .int .i64 n] w fun e w' => e = .returned (.int .i64 (tot (L.drop (cutAt n L.length)))) ∧ OneI w0 g mb w' l M ∧ RfO w0 rg rm w' l (L.take (cutAt n L.length)) ∧ Spares artR w w' := by
  refine (rcut_any n _ _ _ _ _ _ r hn _ _ rfl rfl).mono ?_
  rintro e w' ⟨he, h1, hs⟩
  exact ⟨he, h.spares hs h1.bel (by decide), h1, hs⟩
theorem putA (x n : Int) (hn : -9223372036854775808 ≤ n ∧ n ≤ 9223372036854775807) (h : OneI w0 g mb w l L) (r : RfO w0 rg rm w l M) :
    Calls Try.prog 23 #[.pointer (some ⟨g, 0, none⟩), .int .i64 x, .int .i64 n] w fun e w' => e = .returned (.tuple #[.int .i64 (putNum l (tot L) n L.length), .int .i64 (putCode l (tot L) n)]) ∧ OneI w0 g mb w' l (putL l (tot L) n x L) ∧ RfO w0 rg rm w' l M ∧ Spares artI w w' := by
  refine (oneI_put_sp _ _ _ _ _ _ h x n hn).mono ?_
  rintro e w' ⟨he, h1, hs⟩
  exact ⟨he, h1, r.spares hs h1.bel (by decide), hs⟩
theorem putR (x n : Int) (hn : -9223372036854775808 ≤ n ∧ n ≤ 9223372036854775807) (h : OneI w0 g mb w l M) (r : RfO w0 rg rm w l L) :
    Calls Try.prog 31 #[.pointer (some ⟨rg, 0, none⟩), .int .i64 x, .int .i64 n] w fun e w' => e = .returned (.tuple #[.int .i64 (putNum l (tot L) n L.length), .int .i64 (putCode l (tot L) n)]) ∧ OneI w0 g mb w' l M ∧ RfO w0 rg rm w' l (putL l (tot L) n x L) ∧ Spares artR w w' := by
  refine (rput_any x n _ _ _ _ _ _ r hn).mono ?_
  rintro e w' ⟨he, h1, hs⟩
  exact ⟨he, h.spares hs h1.bel (by decide), h1, hs⟩

/-- What the document's arena shows. -/
theorem RfO.look (r : RfO w0 rg rm w l L) : ∃ ao cap, w.cell? ⟨rg, 1, none⟩ = some (.slice ao L.length cap) ∧ w.cell? ⟨rg, 0, none⟩ = some (.pointer (some ⟨rm, 0, none⟩)) ∧ w.cell? ⟨rm, 0, none⟩ = some (.int .i64 l) ∧ w.cell? ⟨rm, 1, none⟩ = some (.int .i64 (tot L)) ∧
    ∀ (k : Nat) (p : Int × Int), L[k]? = some p → ∃ b, ao = some ⟨b, 0, none⟩ ∧ w.cell? ⟨b, k, none⟩ = some (.int .i64 p.1) ∧ w.frozen? ⟨b, k, none⟩ = false ∧
      ∀ x, RfO w0 rg rm (w.setCell ⟨b, k, none⟩ (.int .i64 x)) l (L.set k (x, p.2)) ∧ Spares [3] w (w.setCell ⟨b, k, none⟩ (.int .i64 x)) := by
  obtain ⟨vL, vC, m, hA, hM⟩ := r.ex
  obtain ⟨ao, cap, rfl, hc1, hc2⟩ := own_form' hA.ownL
  have c0 := hA.at_.cell 0
  have c1 := hA.at_.cell 1
  have d0 := hM.cell 0
  have d1 := hM.cell 1
  simp at c0 c1 d0 d1
  refine ⟨ao, cap, c1, c0, d0, d1, fun k p hk => ?_⟩
  have hlt : k < L.length := (List.getElem?_eq_some_iff.1 hk).1
  obtain ⟨b, rfl⟩ := own_in' hA.ownL (by omega)
  have e0 := hA.ownL.cellAt k (by omega)
  rw [fsts, List.getElem?_map, hk] at e0
  refine ⟨b, rfl, by simpa using e0, hA.ownL.frozenAt k, fun x => ?_⟩
  obtain ⟨s1, s2⟩ := hA.ownL.stored k (.int .i64 x)
  rw [fsts_set L k p x hk] at s1
  have hgb : rg ≠ b := fun e => own_apart hA.ownL hA.at_ (by decide) (by rw [e]; rfl)
  have hmb : rm ≠ b := fun e => own_apart hA.ownL hM (by decide) (by rw [e]; rfl)
  have hbb := (hA.ownL.lt b rfl).1
  have hpk : p ∈ L := List.mem_of_getElem? hk
  have et := tot_set L k p x hk
  have K : Keeps [b] w (w.setCell ⟨b, k, none⟩ (.int .i64 x)) := (Keeps.refl [b] w).set (.inl (by simp)) _
  have hM' := hM.far (p := ⟨b, k, none⟩) hmb (.int .i64 x)
  rw [← et] at hM'
  refine ⟨⟨⟨_, _, m, ⟨hA.at_.far (p := ⟨b, k, none⟩) hgb _, by rw [List.length_set]; exact s1, ?_, hA.apart, ?_, by rw [et]; exact hA.most⟩, hM'⟩, r.bel.setCell hbb _, by rw [et]; exact r.lim, r.big⟩, grown_spares (v := .slice (some ⟨b, 0, none⟩) L.length cap) s2 hA.ownL⟩
  · rw [snds_set L k p x hk, List.length_set]
    exact own_keeps hA.ownC K (fun q hq hm => hA.apart q (by simp at hm; rw [hm]; rfl) hq)
  · intro q hq
    rcases List.mem_or_eq_of_mem_set hq with h3 | rfl
    · exact hA.pos q h3
    · exact hA.pos p hpk
end

set_option maxRecDepth 100000 in
set_option maxHeartbeats 4000000 in
theorem done_put (w0 : World) (g mb rg rm : Nat) (w : World) (l : Int) (L : List (Int × Int)) (h : Bo w0 g mb rg rm w l L) (n : Int) (y : Int) (hn : -9223372036854775808 ≤ n ∧ n ≤ 9223372036854775807) :
    Calls Try.prog 13 #[.pointer (some ⟨g, 0, none⟩), .pointer (some ⟨rg, 0, none⟩), .agg #[.int .i64 1, .int .i64 n, .int .i64 y]] w fun e w' => e = .returned (.bool true) ∧ ∃ L', Bo w0 g mb rg rm w' l L' := by
  have hO : At (w.alloc (.cells #[.int .i64 1, .int .i64 n, .int .i64 y] 38)) w.heap.size 38 #[.int .i64 1, .int .i64 n, .int .i64 y] := At.new w _ _
  have hP := h.alloc (.cells #[.int .i64 1, .int .i64 n, .int .i64 y] 38)
  obtain ⟨ao, cap, r1, r0, d0, d1, hin⟩ := hP.ref.look
  have HO := Lib.hid hO
  have HP := Lib.hid hP
  have HI := Lib.hid hin
  have hnn := hP.one.nonneg
  clear h hO hP r0 d0 d1 hin
  go_enter Try.func13, Try.ntmps13
  go_wp2_with fail
  go_quiet (first | (go_at_call 30; refine quiet_same (is_any _ _ _)))
  go_wp2_with fail
  refine (putA y n hn (HP.out.drewN _).one (HP.out.drewN _).ref).mono ?_
  rintro e w1 ⟨rfl, q1, q2, q3⟩
  have hO1 := (HO.out.drewN _).spares q3 (by decide)
  have b1 := hO1.cell 1
  have b2 := hO1.cell 2
  simp at b1 b2
  have Q := Lib.hid (And.intro q1 q2)
  clear q1 q2 q3 hO1
  go_wp2_with fail
  refine (putR y n hn Q.out.1 Q.out.2).mono ?_
  rintro e w2 ⟨rfl, q1, q2, q3⟩
  have R := Lib.hid (And.intro q1 q2)
  clear q1 q2 q3
  go_wp2_with fail
  go_ret
  exact ⟨rfl, _, R.out.1, R.out.2⟩

set_option maxRecDepth 100000 in
set_option maxHeartbeats 4000000 in
theorem done_at_in (w0 : World) (g mb rg rm : Nat) (w : World) (l : Int) (L : List (Int × Int)) (h : Bo w0 g mb rg rm w l L) (k : Nat) (p : Int × Int) (hk : L[k]? = some p) (y : Int) (hn : -9223372036854775808 ≤ (k : Int) ∧ (k : Int) ≤ 9223372036854775807) :
    Calls Try.prog 13 #[.pointer (some ⟨g, 0, none⟩), .pointer (some ⟨rg, 0, none⟩), .agg #[.int .i64 2, .int .i64 (k : Int), .int .i64 y]] w fun e w' => e = .returned (.bool true) ∧ Bo w0 g mb rg rm w' l L := by
  have hlt : k < L.length := (List.getElem?_eq_some_iff.1 hk).1
  have hti : isIn L.length (k : Int) = true := isIn_t (by omega) (by omega)
  have HK := Lib.hid hk
  clear hk
  have hO : At (w.alloc (.cells #[.int .i64 2, .int .i64 (k : Int), .int .i64 y] 38)) w.heap.size 38 #[.int .i64 2, .int .i64 (k : Int), .int .i64 y] := At.new w _ _
  have hP := h.alloc (.cells #[.int .i64 2, .int .i64 (k : Int), .int .i64 y] 38)
  obtain ⟨ao, cap, r1, r0, d0, d1, hin⟩ := hP.ref.look
  have HO := Lib.hid hO
  have HP := Lib.hid hP
  have HI := Lib.hid hin
  have hnn := hP.one.nonneg
  clear h hO hP r0 d0 d1 hin
  go_enter Try.func13, Try.ntmps13
  go_wp2_with fail
  go_quiet (first | (go_at_call 30; refine quiet_same (is_any _ _ _)))
  obtain ⟨b, rfl, f0, z0, _⟩ := HI.out k p HK.out
  go_wp2_with fail
  refine (oneI_at _ _ _ _ _ _ (HP.out.drewN _).one k k rfl p HK.out).mono ?_
  rintro e w1 ⟨rfl, rfl⟩
  go_wp2_with fail
  go_quiet (fail)
  go_wp2_with fail
  go_ret
  exact ⟨rfl, (HP.out.drewN _).one, (HP.out.drewN _).ref⟩

set_option maxRecDepth 100000 in
set_option maxHeartbeats 4000000 in
theorem done_at_out (w0 : World) (g mb rg rm : Nat) (w : World) (l : Int) (L : List (Int × Int)) (h : Bo w0 g mb rg rm w l L) (n : Int) (hti : isIn L.length n = false) (y : Int) (hn : -9223372036854775808 ≤ n ∧ n ≤ 9223372036854775807) :
    Calls Try.prog 13 #[.pointer (some ⟨g, 0, none⟩), .pointer (some ⟨rg, 0, none⟩), .agg #[.int .i64 2, .int .i64 n, .int .i64 y]] w fun e w' => e = .returned (.bool true) ∧ Bo w0 g mb rg rm w' l L := by
  have hO : At (w.alloc (.cells #[.int .i64 2, .int .i64 n, .int .i64 y] 38)) w.heap.size 38 #[.int .i64 2, .int .i64 n, .int .i64 y] := At.new w _ _
  have hP := h.alloc (.cells #[.int .i64 2, .int .i64 n, .int .i64 y] 38)
  obtain ⟨ao, cap, r1, r0, d0, d1, hin⟩ := hP.ref.look
  have HO := Lib.hid hO
  have HP := Lib.hid hP
  have HI := Lib.hid hin
  have hnn := hP.one.nonneg
  clear h hO hP r0 d0 d1 hin
  go_enter Try.func13, Try.ntmps13
  go_wp2_with fail
  go_quiet (first | (go_at_call 30; refine quiet_same (is_any _ _ _)))
  go_wp2_with fail
  refine (oneI_at_no _ _ _ _ _ _ (HP.out.drewN _).one n hti).mono ?_
  rintro e w1 ⟨rfl, rfl⟩
  go_wp2_with fail
  go_ret
  exact ⟨rfl, (HP.out.drewN _).one, (HP.out.drewN _).ref⟩

set_option maxRecDepth 100000 in
set_option maxHeartbeats 4000000 in
theorem done_set_in (w0 : World) (g mb rg rm : Nat) (w : World) (l : Int) (L : List (Int × Int)) (h : Bo w0 g mb rg rm w l L) (k : Nat) (p : Int × Int) (hk : L[k]? = some p) (y : Int) (hn : -9223372036854775808 ≤ (k : Int) ∧ (k : Int) ≤ 9223372036854775807) :
    Calls Try.prog 13 #[.pointer (some ⟨g, 0, none⟩), .pointer (some ⟨rg, 0, none⟩), .agg #[.int .i64 3, .int .i64 (k : Int), .int .i64 y]] w fun e w' => e = .returned (.bool true) ∧ ∃ L', Bo w0 g mb rg rm w' l L' := by
  have hlt : k < L.length := (List.getElem?_eq_some_iff.1 hk).1
  have hti : isIn L.length (k : Int) = true := isIn_t (by omega) (by omega)
  have HK := Lib.hid hk
  clear hk
  have hO : At (w.alloc (.cells #[.int .i64 3, .int .i64 (k : Int), .int .i64 y] 38)) w.heap.size 38 #[.int .i64 3, .int .i64 (k : Int), .int .i64 y] := At.new w _ _
  have hP := h.alloc (.cells #[.int .i64 3, .int .i64 (k : Int), .int .i64 y] 38)
  obtain ⟨ao, cap, r1, r0, d0, d1, hin⟩ := hP.ref.look
  have HO := Lib.hid hO
  have HP := Lib.hid hP
  have HI := Lib.hid hin
  have hnn := hP.one.nonneg
  clear h hO hP r0 d0 d1 hin
  go_enter Try.func13, Try.ntmps13
  go_wp2_with fail
  go_quiet (first | (go_at_call 30; refine quiet_same (is_any _ _ _)))
  go_wp2_with fail
  refine (oneI_set_sp _ _ _ _ _ _ (HP.out.drewN _).one k y).mono ?_
  rw [setL_in HK.out]
  rintro e w1 ⟨rfl, q1, q3⟩
  have hO1 := (HO.out.drewN _).spares q3 (by decide)
  have b1 := hO1.cell 1
  have b2 := hO1.cell 2
  simp at b1 b2
  have q2 := (HP.out.drewN _).ref.spares q3 q1.bel (by decide)
  clear r1 HI
  obtain ⟨ao, cap, r1, _, _, _, hin⟩ := q2.look
  obtain ⟨b, rfl, f0, z0, hst⟩ := hin k p HK.out
  have ST := Lib.hid (And.intro q1 (hst y))
  clear q1 q2 q3 hO1 hst hin
  go_wp2_with fail
  go_region
  all_goals go_wp2_with fail
  all_goals go_ret
  all_goals
    obtain ⟨q1, q2, q3⟩ := ST.out
    exact ⟨rfl, _, (⟨q1.spares q3 q2.bel (by decide), q2⟩ : Bo w0 g mb rg rm _ l _).drew⟩

set_option maxRecDepth 100000 in
set_option maxHeartbeats 4000000 in
theorem done_set_out (w0 : World) (g mb rg rm : Nat) (w : World) (l : Int) (L : List (Int × Int)) (h : Bo w0 g mb rg rm w l L) (n : Int) (hti : isIn L.length n = false) (y : Int) (hn : -9223372036854775808 ≤ n ∧ n ≤ 9223372036854775807) :
    Calls Try.prog 13 #[.pointer (some ⟨g, 0, none⟩), .pointer (some ⟨rg, 0, none⟩), .agg #[.int .i64 3, .int .i64 n, .int .i64 y]] w fun e w' => e = .returned (.bool true) ∧ Bo w0 g mb rg rm w' l L := by
  have hO : At (w.alloc (.cells #[.int .i64 3, .int .i64 n, .int .i64 y] 38)) w.heap.size 38 #[.int .i64 3, .int .i64 n, .int .i64 y] := At.new w _ _
  have hP := h.alloc (.cells #[.int .i64 3, .int .i64 n, .int .i64 y] 38)
  obtain ⟨ao, cap, r1, r0, d0, d1, hin⟩ := hP.ref.look
  have HO := Lib.hid hO
  have HP := Lib.hid hP
  have HI := Lib.hid hin
  have hnn := hP.one.nonneg
  clear h hO hP r0 d0 d1 hin
  go_enter Try.func13, Try.ntmps13
  go_wp2_with fail
  go_quiet (first | (go_at_call 30; refine quiet_same (is_any _ _ _)))
  go_wp2_with fail
  refine (oneI_set_no _ _ _ _ _ _ (HP.out.drewN _).one n y hti).mono ?_
  rintro e w1 ⟨rfl, rfl⟩
  go_wp2_with fail
  go_ret
  exact ⟨rfl, (HP.out.drewN _).one, (HP.out.drewN _).ref⟩

set_option maxRecDepth 100000 in
set_option maxHeartbeats 4000000 in
theorem done_cut (w0 : World) (g mb rg rm : Nat) (w : World) (l : Int) (L : List (Int × Int)) (h : Bo w0 g mb rg rm w l L) (n : Int) (y : Int) (hn : -9223372036854775808 ≤ n ∧ n ≤ 9223372036854775807) :
    Calls Try.prog 13 #[.pointer (some ⟨g, 0, none⟩), .pointer (some ⟨rg, 0, none⟩), .agg #[.int .i64 4, .int .i64 n, .int .i64 y]] w fun e w' => e = .returned (.bool true) ∧ ∃ L', Bo w0 g mb rg rm w' l L' := by
  have hO : At (w.alloc (.cells #[.int .i64 4, .int .i64 n, .int .i64 y] 38)) w.heap.size 38 #[.int .i64 4, .int .i64 n, .int .i64 y] := At.new w _ _
  have hP := h.alloc (.cells #[.int .i64 4, .int .i64 n, .int .i64 y] 38)
  obtain ⟨ao, cap, r1, r0, d0, d1, hin⟩ := hP.ref.look
  have HO := Lib.hid hO
  have HP := Lib.hid hP
  have HI := Lib.hid hin
  have hnn := hP.one.nonneg
  clear h hO hP r0 d0 d1 hin
  go_enter Try.func13, Try.ntmps13
  go_wp2_with fail
  go_quiet (first | (go_at_call 30; refine quiet_same (is_any _ _ _)))
  have P0 := HP.out.drewN (nq + 1)
  have O0 := HO.out.drewN (nq + 1)
  go_wp2_with fail
  go_region_with (first
    | (go_at_call 25; first
        | ((with_reducible refine (cutA n hn R1.1 R1.2).mono ?_); rintro e w2 ⟨rfl, q1, q2, _⟩; have E : Bo w0 g mb rg rm w2 l (L.take (cutAt n L.length)) := ⟨q1, q2⟩)
        | ((with_reducible refine (cutA n hn P0.one P0.ref).mono ?_); rintro e w1 ⟨rfl, q1, q2, q3⟩; have S1 := And.intro q1 q2; have hc := (O0.spares q3 (by decide)).cell 1; simp at hc; clear q1 q2 q3))
    | (go_at_call 32; first
        | ((with_reducible refine (cutR n hn S1.1 S1.2).mono ?_); rintro e w2 ⟨rfl, q1, q2, _⟩; have E : Bo w0 g mb rg rm w2 l (L.take (cutAt n L.length)) := ⟨q1, q2⟩)
        | ((with_reducible refine (cutR n hn P0.one P0.ref).mono ?_); rintro e w1 ⟨rfl, q1, q2, q3⟩; have R1 := And.intro q1 q2; have hc := (O0.spares q3 (by decide)).cell 1; simp at hc; clear q1 q2 q3)))
  all_goals go_wp2_with fail
  all_goals go_ret
  all_goals exact ⟨rfl, _, E⟩

set_option maxRecDepth 100000 in
set_option maxHeartbeats 4000000 in
theorem done_other (w0 : World) (g mb rg rm : Nat) (w : World) (l : Int) (L : List (Int × Int)) (h : Bo w0 g mb rg rm w l L) (x : Int) (t1 : (x == 1) = false) (t2 : (x == 2) = false) (t3 : (x == 3) = false) (t4 : (x == 4) = false) (n : Int) (y : Int) (hn : -9223372036854775808 ≤ n ∧ n ≤ 9223372036854775807) :
    Calls Try.prog 13 #[.pointer (some ⟨g, 0, none⟩), .pointer (some ⟨rg, 0, none⟩), .agg #[.int .i64 x, .int .i64 n, .int .i64 y]] w fun e w' => e = .returned (.bool true) ∧ Bo w0 g mb rg rm w' l L := by
  have hO : At (w.alloc (.cells #[.int .i64 x, .int .i64 n, .int .i64 y] 38)) w.heap.size 38 #[.int .i64 x, .int .i64 n, .int .i64 y] := At.new w _ _
  have hP := h.alloc (.cells #[.int .i64 x, .int .i64 n, .int .i64 y] 38)
  obtain ⟨ao, cap, r1, r0, d0, d1, hin⟩ := hP.ref.look
  have HO := Lib.hid hO
  have HP := Lib.hid hP
  have HI := Lib.hid hin
  have hnn := hP.one.nonneg
  clear h hO hP r0 d0 d1 hin
  go_enter Try.func13, Try.ntmps13
  go_wp2_with fail
  go_quiet (first | (go_at_call 30; refine quiet_same (is_any _ _ _)))
  go_wp2_with fail
  go_ret
  exact ⟨rfl, (HP.out.drewN _).one, (HP.out.drewN _).ref⟩

end Go.Proofs.Ytnmmffpcbneccaa
