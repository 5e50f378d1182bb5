import Derived.Test.YtdhhkancbgealaaGreatT22
import Derived.BigQuiet
import Derived.Deep.QuietTactic
import Derived.Test.YtdhhkancbgealaaGreatT05
import Derived.Test.YtdhhkancbgealaaGreatT07
import Derived.Deep.RegionHeld3
import Derived.Deep.DrawnRows
import Derived.Test.YtdhhkancbgealaaGreatT17
import Derived.Test.YtdhhkancbgealaaGreatT04
import Derived.Test.YtdhhkancbgealaaGreatT23
import Derived.Test.YtdhhkancbgealaaGreatT19
import Derived.Test.YtdhhkancbgealaaGreatT18
section
namespace Go.Proofs.YtdhhkancbgealaaGreat
open Go.RowKit
open Lx
set_option linter.unusedVariables false
set_option linter.unusedSimpArgs false
set_option maxRecDepth 100000
set_option maxHeartbeats 2000000 in
theorem sfew_any (v : Value) (s : Sm.S) (r K B : Nat) (w : World) (h : SmallC w B v s) (hB : B ≤ w.heap.size) (hs : SmSz s) (hr : r ≤ 1000) (hK : K ≤ 1000) :
    Calls Tryz.prog 7 #[v, .int .i64 (r : Int), .int .i64 (K : Int)] w fun e w' => e = .returned (.bool (Sm.few s r K)) ∧ Below w.heap.size w w' := by
  obtain ⟨A1, c1, A2, c2, A3, c3, A4, c4, A5, c5, ql, rfl, k1, k2, k3, k4, k5, k6, k7⟩ := h.ex
  have hql : ql.length = s.rights.length := by rw [← k3, List.length_map]
  have HSZ := Lib.hid hs
  have z2 := hs.n2
  have z1 := hs.n1
  have z4 := hs.n4
  have HF := Lib.hid (show Sm.few s r K = (decide (s.lefts.length ≤ r ∧ s.assocs.length ≤ 5) && s.rights.all fun l => decide (l.length ≤ K)) from rfl)
  obtain ⟨F, hF⟩ : ∃ F, Sm.few s r K = F := ⟨_, rfl⟩
  rw [hF] at HF ⊢
  obtain ⟨n1, hn1⟩ : ∃ n, s.lefts.length = n := ⟨_, rfl⟩
  obtain ⟨n2, hn2⟩ : ∃ n, s.rights.length = n := ⟨_, rfl⟩
  obtain ⟨n3, hn3⟩ : ∃ n, s.precs.length = n := ⟨_, rfl⟩
  obtain ⟨n4, hn4⟩ : ∃ n, s.assocs.length = n := ⟨_, rfl⟩
  obtain ⟨n5, hn5⟩ : ∃ n, s.levels.length = n := ⟨_, rfl⟩
  obtain ⟨x1, hx1⟩ : ∃ x : Int, (s.tokens : Int) = x := ⟨_, rfl⟩
  obtain ⟨x2, hx2⟩ : ∃ x : Int, (s.vars : Int) = x := ⟨_, rfl⟩
  rw [hn1] at HF z1 ⊢
  rw [hn2] at hql z2 ⊢
  rw [hn4] at HF z4 ⊢
  rw [hn3, hn5, hx1, hx2]
  have hb := (Below.refl w.heap.size w).alloc (Nat.le_refl _) (.cells #[.int .u8 x1, .int .u8 x2, .slice A1 n1 c1, .slice A2 n2 c2, .slice A3 n3 c3, .slice A4 n4 c4, .slice A5 n5 c5] 25)
  have hat := At.new w 25 #[.int .u8 x1, .int .u8 x2, .slice A1 n1 c1, .slice A2 n2 c2, .slice A3 n3 c3, .slice A4 n4 c4, .slice A5 n5 c5]
  obtain ⟨W0, hW0⟩ : ∃ W0, w.alloc (.cells #[.int .u8 x1, .int .u8 x2, .slice A1 n1 c1, .slice A2 n2 c2, .slice A3 n3 c3, .slice A4 n4 c4, .slice A5 n5 c5] 25) = W0 := ⟨_, rfl⟩
  have HL := Lib.hid (k2.below (hb.mono hB))
  have HU := Lib.hid (show ∀ p ∈ ql, U8C W0 B p.2 p.1 from fun p hp => hW0 ▸ (k4 p hp).below (hb.mono hB))
  rw [hW0] at hb hat HL
  have HW0 := Lib.hid hW0
  obtain ⟨g, hg⟩ : ∃ g, w.heap.size = g := ⟨_, rfl⟩
  rw [hg] at hat
  have hb2 := hb
  rw [hg] at hb2
  have HB := Lib.hid hb
  have HAT := Lib.hid hat
  have HQ := Lib.hid k3
  have HQL := Lib.hid hql
  have HG := Lib.hid hg
  clear h hs k1 k2 k3 k4 k5 k6 k7 hn1 hn2 hn3 hn4 hn5 hx1 hx2 hF hb hat hW0 hb2 hql
  by_cases h1 : r < n1
  · have hf : F = false := by rw [HF.out, decide_eq_false (by omega)]; rfl
    have g1 : (r : Int) < (n1 : Int) := by omega
    have HFF := Lib.hid hf
    clear h1 hf hg
    go_enter Tryz.func7, Tryz.ntmps7
    go_wp2_with fail
    rw [HW0.out]
    go_ret
    exact ⟨by rw [HFF.out]; rfl, HB.out⟩
  · have g1 : ¬ (r : Int) < (n1 : Int) := by omega
    by_cases h4 : 5 < n4
    · have hf : F = false := by rw [HF.out, decide_eq_false (by omega)]; rfl
      have g4 : (5 : Int) < (n4 : Int) := by omega
      have HFF := Lib.hid hf
      clear h1 h4 hf hg
      go_enter Tryz.func7, Tryz.ntmps7
      go_wp2_with fail
      rw [HW0.out]
      go_ret
      exact ⟨by rw [HFF.out]; rfl, HB.out⟩
    · have g4 : ¬ (5 : Int) < (n4 : Int) := by omega
      have HFF := Lib.hid (show F = s.rights.all fun l => decide (l.length ≤ K) by rw [HF.out, decide_eq_true (by omega)]; rfl)
      clear h1 h4 HF
      go_enter Tryz.func7, Tryz.ntmps7
      go_wp2_with fail
      rw [HW0.out]
      try rw [hg]
      clear hg g1 g4
      go_loopw [7] (fun i wr => ∃ (k m : Nat), k ≤ n2 ∧ i = .int .i64 (k : Int) ∧ (∀ p ∈ ql.take k, p.1.length ≤ K) ∧ wr = W0.drewN m) (fun i _ => n2 - (intOf i).toNat)
      case atStart => exact ⟨0, 0, by omega, rfl, by simp, rfl⟩
      case round =>
        obtain ⟨k, m, hk, rfl, hall, rfl⟩ := hrel
        have HALL := Lib.hid hall
        have q3 := HAT.out.cell 3
        simp only [List.getElem?_toArray, List.getElem?_cons_zero, List.getElem?_cons_succ] at q3
        have hgl := HAT.out.lt
        clear hall
        by_cases hlt : k < n2
        · obtain ⟨p, hp⟩ := some_get (l := ql) (i := k) (by rw [HQL.out]; exact hlt)
          have hpm := List.mem_of_getElem? hp
          obtain ⟨A, c, he, hcl⟩ := HU.out p hpm
          have hpv : (ql.map (·.2))[k]? = some p.2 := by simp [hp]
          obtain ⟨b, o, hA, hbl, hcell⟩ := HL.out.ex (fun e => by rw [e] at hpv; simp at hpv)
          subst hA
          have y0 := hcell _ _ hpv
          rw [he] at y0
          have hlm := (HSZ.out.right p.1 (by rw [← HQ.out]; exact List.mem_map.2 ⟨p, hpm, rfl⟩)).1
          have HP := Lib.hid hp
          have hki : (k : Int) < (n2 : Int) := by omega
          have hk0 : (0 : Int) ≤ (k : Int) := by omega
          obtain ⟨ln, hln⟩ : ∃ n, p.1.length = n := ⟨_, rfl⟩
          rw [hln] at y0 hlm
          have HLN := Lib.hid hln
          clear hp hpm he hcl hpv hcell hln
          by_cases hK2 : K < ln
          · have c1 : (K : Int) < (ln : Int) := by omega
            have HFA := Lib.hid (show F = false by
              rw [HFF.out, ← HQ.out, List.all_map]
              refine List.all_eq_false.2 ⟨p, List.mem_of_getElem? HP.out, ?_⟩
              simp [HLN.out]; omega)
            clear hK2
            go_wp2_with fail
            go_ret
            exact ⟨by rw [HFA.out]; rfl, below_drewN HB.out _⟩
          · have c1 : ¬ (K : Int) < (ln : Int) := by omega
            have HLE := Lib.hid (show ln ≤ K by omega)
            clear hK2
            go_wp2_with fail
            go_roundw
            case rel =>
              refine ⟨k + 1, _, by omega, by go_num, fun q hq => ?_, rfl⟩
              rw [List.take_add_one, HP.out] at hq
              rcases List.mem_append.1 hq with h1 | h1
              · exact HALL.out q h1
              · simp at h1; subst h1; rw [HLN.out]; exact HLE.out
            case measure => simp [intOf]; omega
        · obtain rfl : n2 = k := by omega
          have HFA := Lib.hid (show F = true by
            rw [HFF.out, ← HQ.out, List.all_map, List.all_eq_true]
            intro q hq
            have := HALL.out q (by rw [← HQL.out, List.take_length]; exact hq)
            simpa using this)
          go_wp2_with fail
          go_ret
          exact ⟨by rw [HFA.out]; rfl, below_drewN HB.out _⟩
end Go.Proofs.YtdhhkancbgealaaGreat
end
section
namespace Go.Proofs.YtdhhkancbgealaaGreat
namespace Pr
open Rd (Name Pat Tok Lev Rule G)
set_option linter.unusedVariables false
set_option linter.unusedSimpArgs false
theorem rises_len {l : List UInt8} (h : rises l = true) : l.length ≤ 256 := by
  have h1 := filter_rises 256 0 l h (fun x _ => ⟨by omega, by have := x.toNat_lt; omega⟩)
  have h2 := congrArg List.length h1
  rw [List.length_map] at h2
  rw [← h2]
  exact Nat.le_trans (List.length_filter_le _ _) (by simp)
theorem name_len {n : Name} (h : nameOk n = true) : n.length ≤ 32 := (nameOk_ex h).1
theorem action_len {a : Name} (h : actOk a = true) : a.length ≤ 200 := by
  unfold actOk at h
  rw [beq_iff_eq] at h
  have : ∀ (l acc : List UInt8) (o : Nat) {k n : Nat} {t : List UInt8}, Lx.act l acc o = .mark k t n → t.length ≤ 200 := fun l acc o k n t h => (act_mark l acc o h).2.2
  exact this _ _ _ h
theorem flat_len {α : Type} {f : α → List UInt8} {m : Nat} {l : List α} (h : ∀ x ∈ l, (f x).length ≤ m) : (l.flatMap f).length ≤ m * l.length := by
  induction l with
  | nil => simp
  | cons x r ih =>
    have h1 := h x (by simp)
    have h2 := ih (fun y hy => h y (by simp [hy]))
    rw [List.flatMap_cons, List.length_append, List.length_cons, Nat.mul_add]
    omega
end Pr
end Go.Proofs.YtdhhkancbgealaaGreat
namespace Go.Proofs.YtdhhkancbgealaaGreat
open Go.RowKit
open Lx
attribute [local go_sem ↓] Go.wp_at_zero Go.wp_at_succ
set_option linter.unusedVariables false
set_option linter.unusedSimpArgs false
set_option maxRecDepth 100000
end Go.Proofs.YtdhhkancbgealaaGreat
end
section
namespace Go.Proofs.YtdhhkancbgealaaGreat
open Go.RowKit
open Lx
set_option linter.unusedVariables false
set_option linter.unusedSimpArgs false
set_option maxRecDepth 100000
theorem Right.sz8 {G : Rd.G} (h : Pr.Right G) (hN : (Pr.lvl G).length ≤ 10000) : Sz G := by
  refine ⟨by have := h.ntok; omega, by have := h.nskip; omega, by have := h.nlev; omega, by have := h.nrule; omega, fun t ht => ?_, fun p hp => ?_, fun v hv => ?_, by have := Pr.name_len h.start; omega, fun r hr => ?_⟩
  · have h1 := h.toks t ht
    unfold Pr.tokOk at h1
    rw [Bool.and_eq_true] at h1
    have h2 := Pr.name_len h1.1
    have h3 := h1.2
    unfold Pr.patOk at h3
    refine ⟨by omega, ?_, ?_⟩
    · by_cases h0 : t.pat.text = []
      · rw [h0]; simp
      · rw [if_neg h0] at h3; simp only [Bool.and_eq_true, decide_eq_true_eq] at h3; omega
    · by_cases h0 : t.pat.text = []
      · rw [if_pos h0] at h3; simp only [Bool.and_eq_true] at h3; have := Pr.rises_len h3.2; omega
      · rw [if_neg h0] at h3; simp only [Bool.and_eq_true, beq_iff_eq] at h3; rw [h3.2.1]; simp
  · have h3 := h.skips p hp
    unfold Pr.patOk at h3
    refine ⟨?_, ?_⟩
    · by_cases h0 : p.text = []
      · rw [h0]; simp
      · rw [if_neg h0] at h3; simp only [Bool.and_eq_true, decide_eq_true_eq] at h3; omega
    · by_cases h0 : p.text = []
      · rw [if_pos h0] at h3; simp only [Bool.and_eq_true] at h3; have := Pr.rises_len h3.2; omega
      · rw [if_neg h0] at h3; simp only [Bool.and_eq_true, beq_iff_eq] at h3; rw [h3.2.1]; simp
  · have h1 := h.levels v hv
    unfold Pr.levOk at h1
    simp only [Bool.and_eq_true, List.all_eq_true] at h1
    refine ⟨?_, fun n hn => by have := Pr.name_len (h1.2.2 n hn); omega⟩
    unfold Pr.lvl at hN
    obtain ⟨s1, s2, hs⟩ := List.append_of_mem hv
    rw [hs] at hN
    simp only [List.flatMap_append, List.flatMap_cons, List.length_append] at hN
    omega
  · have h1 := h.each r hr
    unfold Pr.ruleOk at h1
    simp only [Bool.and_eq_true, Bool.or_eq_true, decide_eq_true_eq, beq_iff_eq, List.all_eq_true] at h1
    obtain ⟨k1, k2, k3, k4, k5⟩ := h1
    refine ⟨by have := Pr.name_len k1; omega, ?_, by have := Pr.action_len k5; omega, by omega, fun n hn => by have := Pr.name_len (k3 n hn); omega⟩
    rcases k4 with h | h
    · rw [h]; simp
    · have := Pr.name_len h; omega
end Go.Proofs.YtdhhkancbgealaaGreat
end
section
namespace Go.Proofs.YtdhhkancbgealaaGreat
open Go.RowKit
open Lx
set_option linter.unusedVariables false
set_option linter.unusedSimpArgs false
set_option maxRecDepth 100000
namespace Sm
open Rd (Name Pat Tok Lev Rule G)
theorem flat_len : ∀ L : List Lev, (∀ v ∈ L, v.names.length ≤ 6) → (L.flatMap Lev.names).length ≤ L.length * 6
  | [], _ => by simp
  | a :: r, h => by
    have h1 := h a (by simp)
    have h2 := flat_len r (fun v hv => h v (by simp [hv]))
    rw [List.flatMap_cons, List.length_append, List.length_cons]; omega
section
variable {s : S}
theorem names_len {m j : Nat} (hm : m ≤ 5) : (lev s m j).names.length ≤ 6 := by
  unfold lev
  rw [List.length_cons, List.length_map]
  have := List.length_filter_le (fun i => lvl s i == j + 1) (List.range m)
  rw [List.length_range] at this
  omega
theorem lvl_gram (hl : nl s ≤ 5) : (Pr.lvl (gram s)).length ≤ 30 := by
  have h := flat_len (levs s (nt s)) (fun v hv => by
    obtain ⟨j, _, rfl⟩ := List.mem_map.1 hv
    exact names_len (by have := nt_le (s := s); omega))
  unfold Pr.lvl
  show ((levs s (nt s)).flatMap Lev.names).length ≤ 30
  have h2 : (levs s (nt s)).length = nl s := by unfold levs; simp
  rw [h2] at h; omega
end
end Sm
theorem small_form {w : World} {B : Nat} {v : Value} {s : Sm.S} (h : SmallC w B v s) : ∃ x1 x2 E1 m1 f1 E2 m2 f2 E3 m3 f3 E4 m4 f4 E5 m5 f5, v = .agg #[.int .u8 x1, .int .u8 x2, .slice E1 m1 f1, .slice E2 m2 f2, .slice E3 m3 f3, .slice E4 m4 f4, .slice E5 m5 f5] := by
  obtain ⟨A1, c1, A2, c2, A3, c3, A4, c4, A5, c5, ql, h0, _⟩ := h.ex
  exact ⟨_, _, _, _, _, _, _, _, _, _, _, _, _, _, _, _, _, h0⟩
theorem gramC_form9 {w : World} {B : Nat} {v : Value} {G : Rd.G} (h : GramC w B v G) : ∃ E1 m1 f1 E2 m2 f2 E3 m3 f3 st E4 m4 f4, v = .agg #[.slice E1 m1 f1, .slice E2 m2 f2, .slice E3 m3 f3, .string st, .slice E4 m4 f4] := by
  obtain ⟨A1, c1, A2, c2, A3, c3, A4, c4, pl, ql, h0, h1, h2, h3, h4, h5, h6, h7, h8⟩ := h.ex
  exact ⟨_, _, _, _, _, _, _, _, _, _, _, _, _, h0⟩
theorem small_sz {s : Sm.S} (hl : Sm.nl s ≤ 5) (h20 : s.lefts.length ≤ 20) (h8 : ∀ l ∈ s.rights, l.length ≤ 8) : Sz (Sm.gram s) :=
  Right.sz8 (Sm.right_gram hl h20 h8) (by have := Sm.lvl_gram hl; omega)
end Go.Proofs.YtdhhkancbgealaaGreat
end
section
namespace Go.Proofs.YtdhhkancbgealaaGreat
open Go.RowKit
open Lx
set_option linter.unusedVariables false
set_option linter.unusedSimpArgs false
set_option maxRecDepth 100000
theorem PlanL.form {w : World} {v : Value} {P : Nm.Plan} (h : PlanL w v P) : ∃ A1 c1 A2 c2 A3 c3 A4 c4 A5 c5 A6 c6, v = .agg #[.slice A1 P.terms.length c1, .slice A2 P.vars.length c2, .slice A3 P.rules.length c3, .slice A4 P.levels.length c4, .slice A5 P.assocs.length c5, .slice A6 P.acts.length c6] := by
  obtain ⟨A1, c1, A2, c2, A3, c3, A4, c4, A5, c5, A6, c6, e, _⟩ := h.ex
  exact ⟨A1, c1, A2, c2, A3, c3, A4, c4, A5, c5, A6, c6, e⟩
theorem at_six {w : World} {g : Nat} {t : TypeId} {a b c d e f : Value} (h : At w g t [a, b, c, d, e, f].toArray) : w.cell? ⟨g, 0, none⟩ = some a ∧ w.cell? ⟨g, 1, none⟩ = some b ∧ w.cell? ⟨g, 2, none⟩ = some c ∧ w.cell? ⟨g, 3, none⟩ = some d ∧ w.cell? ⟨g, 4, none⟩ = some e ∧ w.cell? ⟨g, 5, none⟩ = some f := by
  have p0 := h.cell 0
  have p1 := h.cell 1
  have p2 := h.cell 2
  have p3 := h.cell 3
  have p4 := h.cell 4
  have p5 := h.cell 5
  simp only [List.getElem?_toArray, List.getElem?_cons_zero, List.getElem?_cons_succ] at p0 p1 p2 p3 p4 p5
  exact ⟨p0, p1, p2, p3, p4, p5⟩
set_option maxHeartbeats 4000000 in
theorem splan_any (v : Value) (s : Sm.S) (B : Nat) (w : World) (h : SmallC w B v s) (hB : B ≤ w.heap.size) (hs : SmSz s) (hl5 : Sm.nl s ≤ 5) (h20 : s.lefts.length ≤ 20) (h8 : ∀ l ∈ s.rights, l.length ≤ 8) :
    Calls Tryz.prog 9 #[v] w fun e w' => (∃ pv, e = .returned pv ∧ PlanL w' pv (Nm.plan (Sm.gram s))) ∧ Below w.heap.size w w' := by
  obtain ⟨x1, x2, E1, m1, f1, E2, m2, f2, E3, m3, f3, E4, m4, f4, E5, m5, f5, rfl⟩ := small_form h
  have hA := (At.new w 25 #[.int .u8 x1, .int .u8 x2, .slice E1 m1 f1, .slice E2 m2 f2, .slice E3 m3 f3, .slice E4 m4 f4, .slice E5 m5 f5]).alloc (.cells #[.slice none 0 0, .slice none 0 0, .slice none 0 0, .slice none 0 0, .slice none 0 0, .slice none 0 0] 34)
  have hR := At.new (w.alloc (.cells #[.int .u8 x1, .int .u8 x2, .slice E1 m1 f1, .slice E2 m2 f2, .slice E3 m3 f3, .slice E4 m4 f4, .slice E5 m5 f5] 25)) 34 #[.slice none 0 0, .slice none 0 0, .slice none 0 0, .slice none 0 0, .slice none 0 0, .slice none 0 0]
  have hb := ((Below.refl w.heap.size w).alloc (Nat.le_refl _) (.cells #[.int .u8 x1, .int .u8 x2, .slice E1 m1 f1, .slice E2 m2 f2, .slice E3 m3 f3, .slice E4 m4 f4, .slice E5 m5 f5] 25)).alloc (by simp) (.cells #[.slice none 0 0, .slice none 0 0, .slice none 0 0, .slice none 0 0, .slice none 0 0, .slice none 0 0] 34)
  rw [World.size_alloc] at hR
  obtain ⟨W, hW⟩ : ∃ W, (w.alloc (.cells #[.int .u8 x1, .int .u8 x2, .slice E1 m1 f1, .slice E2 m2 f2, .slice E3 m3 f3, .slice E4 m4 f4, .slice E5 m5 f5] 25)).alloc (.cells #[.slice none 0 0, .slice none 0 0, .slice none 0 0, .slice none 0 0, .slice none 0 0, .slice none 0 0] 34) = W := ⟨_, rfl⟩
  rw [hW] at hA hR hb
  have HW := Lib.hid hW
  have HR := Lib.hid hR
  have HB := Lib.hid hb
  have hsz := hR.lt
  have HGR := Lib.hid (sgram_any _ s B W (h.below (hb.mono hB)) (Nat.le_trans hB hb.size) hs hl5 h20 h8)
  have hright := Sm.right_gram hl5 h20 h8
  have hof : Nm.ofG (Sm.gram s) = (Nm.plan (Sm.gram s), 0, []) := Sm.fine_of (Sm.fine_gram hl5 h20 h8)
  have HOF := Lib.hid hof
  have HSZ := Lib.hid (small_sz hl5 h20 h8)
  have HLV := Lib.hid (Sm.lvl_gram hl5)
  clear h hA hR hb hW hright hof
  go_enter Tryz.func9, Tryz.ntmps9
  go_wp2_with fail
  rw [HW.out]
  refine HGR.out.mono ?_
  rintro e w1 ⟨⟨gv, rfl, hgc⟩, hb1⟩
  have HB1 := Lib.hid (HB.out.trans (hb1.mono HB.out.size))
  have HR1 := Lib.hid (HR.out.below hb1 hsz)
  have HC := Lib.hid (rof_any gv (Sm.gram s) w1 hgc HSZ.out (by have := HLV.out; omega))
  obtain ⟨F1, n1, k1, F2, n2, k2, F3, n3, k3, st, F4, n4, k4, rfl⟩ := gramC_form9 hgc
  have hs1 := hb1.size
  clear hb1 hgc HGR
  go_wp2_with fail
  refine HC.out.mono ?_
  rintro e w2 ⟨⟨pv, rfl, hpl⟩, hb2⟩
  rw [HOF.out] at hpl ⊢
  obtain ⟨A1, c1, A2, c2, A3, c3, A4, c4, A5, c5, A6, c6, rfl⟩ := hpl.form
  have HPL := Lib.hid hpl
  have HB2 := Lib.hid (HB1.out.trans (hb2.mono HB1.out.size))
  have HR2 := Lib.hid (HR1.out.below hb2 HR1.out.lt)
  have hs2 := HR2.out.lt
  clear hb2 hpl HC
  rw [show str [] = ⟨#[]⟩ from rfl]
  go_wp2_with (first
    | (refine wpList_store_at rfl _ _ _ rfl rfl w2.heap.size _ _ [_, _, _, _, _, _] rfl rfl (At.new w2 _ _) 6 Tryz.sizePlan rfl rfl rfl ?_; intro w3 hA3 hg3; have hb3 : Below w2.heap.size w2 w3 := below_grown ((Below.refl _ _).alloc (Nat.le_refl _) _) hg3 (by simp) (Nat.le_refl _); have hR3 := HR2.out.below hb3 hs2; obtain ⟨p0, p1, p2, p3, p4, p5⟩ := at_six hA3)
    | (refine wpList_store_at rfl _ _ _ rfl rfl (w.heap.size + 1) _ _ [_, _, _, _, _, _] rfl rfl hR3 6 Tryz.sizePlan rfl rfl rfl ?_; intro w4 hA4 hg4))
  refine bodyPost_ret (results_cell_row rfl _ _ (w.heap.size + 1) _ _ (0, 0) _ rfl hA4 Tryz.underlying34 rfl Tryz.sizePlan) rfl ⟨⟨_, rfl, ?_⟩, below_grown (HB2.out.trans (hb3.mono HB2.out.size)) hg4 (Nat.le_trans HB2.out.size hb3.size) (Nat.le_succ _)⟩
  exact (HPL.out.below hb3).stay fun t ht => Stay.far hR3 ht hg4
end Go.Proofs.YtdhhkancbgealaaGreat
end
