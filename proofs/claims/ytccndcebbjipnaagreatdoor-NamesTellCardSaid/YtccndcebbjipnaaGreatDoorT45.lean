import Derived.Test.YtccndcebbjipnaaGreatDoorT42
import Derived.Test.YtccndcebbjipnaaGreatDoorT43
import Derived.Test.YtccndcebbjipnaaGreatDoorT44
import Derived.Test.YtccndcebbjipnaaGreatDoorT37
import Derived.Test.YtccndcebbjipnaaGreatDoorT36
import Derived.Test.YtccndcebbjipnaaGreatDoorT22
section
namespace Go.Proofs.YtccndcebbjipnaaGreatDoor
open Go.RowKit
open Lx
set_option linter.unusedVariables false
set_option linter.unusedSimpArgs false
set_option maxRecDepth 100000
namespace Sm
open Rd (Name Pat Tok Lev Rule G)
theorem flat_len : ∀ L : List Lev, (∀ v ∈ L, v.names.length ≤ 6) → (L.flatMap Lev.names).length ≤ L.length * 6
 | [], _ => by simp
 | a :: r, h => by
  have h1 := h a (by simp)
  have h2 := flat_len r (fun v hv => h v (by simp [hv]))
  rw [List.flatMap_cons, List.length_append, List.length_cons]; omega
section
variable {s : S}
theorem names_len {m j : Nat} (hm : m ≤ 5) : (lev s m j).names.length ≤ 6 := by
 unfold lev
 rw [List.length_cons, List.length_map]
 have := List.length_filter_le (fun i => lvl s i == j + 1) (List.range m)
 rw [List.length_range] at this
 omega
theorem lvl_gram (hl : nl s ≤ 5) : (Pr.lvl (gram s)).length ≤ 30 := by
 have h := flat_len (levs s (nt s)) (fun v hv => by
  obtain ⟨j, _, rfl⟩ := List.mem_map.1 hv
  exact names_len (by have := nt_le (s := s); omega))
 unfold Pr.lvl
 show ((levs s (nt s)).flatMap Lev.names).length ≤ 30
 have h2 : (levs s (nt s)).length = nl s := by unfold levs; simp
 rw [h2] at h; omega
end
end Sm
theorem small_form {w : World} {B : Nat} {v : Value} {s : Sm.S} (h : SmallC w B v s) : ∃ x1 x2 E1 m1 f1 E2 m2 f2 E3 m3 f3 E4 m4 f4 E5 m5 f5, v = .agg #[.int .u8 x1, .int .u8 x2, .slice E1 m1 f1, .slice E2 m2 f2, .slice E3 m3 f3, .slice E4 m4 f4, .slice E5 m5 f5] := by
 obtain ⟨A1, c1, A2, c2, A3, c3, A4, c4, A5, c5, ql, h0, _⟩ := h.ex
 exact ⟨_, _, _, _, _, _, _, _, _, _, _, _, _, _, _, _, _, h0⟩
theorem gramC_form9 {w : World} {B : Nat} {v : Value} {G : Rd.G} (h : GramC w B v G) : ∃ E1 m1 f1 E2 m2 f2 E3 m3 f3 st E4 m4 f4, v = .agg #[.slice E1 m1 f1, .slice E2 m2 f2, .slice E3 m3 f3, .string st, .slice E4 m4 f4] := by
 obtain ⟨A1, c1, A2, c2, A3, c3, A4, c4, pl, ql, h0, h1, h2, h3, h4, h5, h6, h7, h8⟩ := h.ex
 exact ⟨_, _, _, _, _, _, _, _, _, _, _, _, _, h0⟩
theorem small_sz {s : Sm.S} (hl : Sm.nl s ≤ 5) (h20 : s.lefts.length ≤ 20) (h8 : ∀ l ∈ s.rights, l.length ≤ 8) : Sz (Sm.gram s) :=
 Right.sz8 (Sm.right_gram hl h20 h8) (by have := Sm.lvl_gram hl; omega)
end Go.Proofs.YtccndcebbjipnaaGreatDoor
end
section
namespace Go.Proofs.YtccndcebbjipnaaGreatDoor
open Go.RowKit
open Lx
set_option linter.unusedVariables false
set_option linter.unusedSimpArgs false
set_option maxRecDepth 100000
theorem Qt.calls_at {P : Program} {f : FuncId} {args : Array Value} {v : Value} {B : Nat} {W : World} {G : World → World} (hG : Qt.Class B W G) (h : ∀ x, Calls P f args (G x) fun e w' => e = .returned v ∧ Below (G x).heap.size (G x) w') :
  ∀ x, Calls P f args (G x) fun e w'' => e = .returned v ∧ ∃ y, w'' = G y :=
 fun x => (h x).mono fun _ _ ⟨he, hb⟩ => ⟨he, hG.onto _ ((hG.below x).trans (hb.mono (Nat.le_trans hG.le (hG.below x).size)))⟩
theorem PlanL.form {w : World} {v : Value} {P : Nm.Plan} (h : PlanL w v P) : ∃ A1 c1 A2 c2 A3 c3 A4 c4 A5 c5 A6 c6, v = .agg #[.slice A1 P.terms.length c1, .slice A2 P.vars.length c2, .slice A3 P.rules.length c3, .slice A4 P.levels.length c4, .slice A5 P.assocs.length c5, .slice A6 P.acts.length c6] := by
 obtain ⟨A1, c1, A2, c2, A3, c3, A4, c4, A5, c5, A6, c6, e, _⟩ := h.ex
 exact ⟨A1, c1, A2, c2, A3, c3, A4, c4, A5, c5, A6, c6, e⟩
theorem at_six {w : World} {g : Nat} {t : TypeId} {a b c d e f : Value} (h : At w g t [a, b, c, d, e, f].toArray) : w.cell? ⟨g, 0, none⟩ = some a ∧ w.cell? ⟨g, 1, none⟩ = some b ∧ w.cell? ⟨g, 2, none⟩ = some c ∧ w.cell? ⟨g, 3, none⟩ = some d ∧ w.cell? ⟨g, 4, none⟩ = some e ∧ w.cell? ⟨g, 5, none⟩ = some f := by
 have p0 := h.cell 0
 have p1 := h.cell 1
 have p2 := h.cell 2
 have p3 := h.cell 3
 have p4 := h.cell 4
 have p5 := h.cell 5
 simp only [List.getElem?_toArray, List.getElem?_cons_zero, List.getElem?_cons_succ] at p0 p1 p2 p3 p4 p5
 exact ⟨p0, p1, p2, p3, p4, p5⟩
set_option maxHeartbeats 4000000 in
theorem splan_any (v : Value) (s : Sm.S) (B : Nat) (w : World) (h : SmallC w B v s) (hB : B ≤ w.heap.size) (hs : SmSz s) (hl5 : Sm.nl s ≤ 5) (h20 : s.lefts.length ≤ 20) (h8 : ∀ l ∈ s.rights, l.length ≤ 8) :
  Calls Tryz.prog 21 #[v] w fun e w' => (∃ pv, e = .returned pv ∧ PlanL w' pv (Nm.plan (Sm.gram s))) ∧ Below w.heap.size w w' := by
 obtain ⟨x1, x2, E1, m1, f1, E2, m2, f2, E3, m3, f3, E4, m4, f4, E5, m5, f5, rfl⟩ := small_form h
 have hA := (At.new w 52 #[.int .u8 x1, .int .u8 x2, .slice E1 m1 f1, .slice E2 m2 f2, .slice E3 m3 f3, .slice E4 m4 f4, .slice E5 m5 f5]).alloc (.cells #[.slice none 0 0, .slice none 0 0, .slice none 0 0, .slice none 0 0, .slice none 0 0, .slice none 0 0] 45)
 have hR := At.new (w.alloc (.cells #[.int .u8 x1, .int .u8 x2, .slice E1 m1 f1, .slice E2 m2 f2, .slice E3 m3 f3, .slice E4 m4 f4, .slice E5 m5 f5] 52)) 45 #[.slice none 0 0, .slice none 0 0, .slice none 0 0, .slice none 0 0, .slice none 0 0, .slice none 0 0]
 have hb := ((Below.refl w.heap.size w).alloc (Nat.le_refl _) (.cells #[.int .u8 x1, .int .u8 x2, .slice E1 m1 f1, .slice E2 m2 f2, .slice E3 m3 f3, .slice E4 m4 f4, .slice E5 m5 f5] 52)).alloc (by simp) (.cells #[.slice none 0 0, .slice none 0 0, .slice none 0 0, .slice none 0 0, .slice none 0 0, .slice none 0 0] 45)
 rw [World.size_alloc] at hR
 obtain ⟨W, hW⟩ : ∃ W, (w.alloc (.cells #[.int .u8 x1, .int .u8 x2, .slice E1 m1 f1, .slice E2 m2 f2, .slice E3 m3 f3, .slice E4 m4 f4, .slice E5 m5 f5] 52)).alloc (.cells #[.slice none 0 0, .slice none 0 0, .slice none 0 0, .slice none 0 0, .slice none 0 0, .slice none 0 0] 45) = W := ⟨_, rfl⟩
 rw [hW] at hA hR hb
 have HW := Lib.hid hW
 have HR := Lib.hid hR
 have HB := Lib.hid hb
 have hsz := hR.lt
 have HGR := Lib.hid (sgram_any _ s B W (h.below (hb.mono hB)) (Nat.le_trans hB hb.size) hs hl5 h20 h8)
 have hright := Sm.right_gram hl5 h20 h8
 have hof : Nm.ofG (Sm.gram s) = (Nm.plan (Sm.gram s), 0, []) := Sm.fine_of (Sm.fine_gram hl5 h20 h8)
 have HOF := Lib.hid hof
 have HSZ := Lib.hid (small_sz hl5 h20 h8)
 have HLV := Lib.hid (Sm.lvl_gram hl5)
 clear h hA hR hb hW hright hof
 go_enter Tryz.func21, Tryz.ntmps21
 go_wp2_with fail
 rw [HW.out]
 refine HGR.out.mono ?_
 rintro e w1 ⟨⟨gv, rfl, hgc⟩, hb1⟩
 have HB1 := Lib.hid (HB.out.trans (hb1.mono HB.out.size))
 have HR1 := Lib.hid (HR.out.below hb1 hsz)
 have HC := Lib.hid (rof_any gv (Sm.gram s) w1 hgc HSZ.out (by have := HLV.out; omega))
 obtain ⟨F1, n1, k1, F2, n2, k2, F3, n3, k3, st, F4, n4, k4, rfl⟩ := gramC_form9 hgc
 have hs1 := hb1.size
 clear hb1 hgc HGR
 go_wp2_with fail
 refine HC.out.mono ?_
 rintro e w2 ⟨⟨pv, rfl, hpl⟩, hb2⟩
 rw [HOF.out] at hpl ⊢
 obtain ⟨A1, c1, A2, c2, A3, c3, A4, c4, A5, c5, A6, c6, rfl⟩ := hpl.form
 have HPL := Lib.hid hpl
 have HB2 := Lib.hid (HB1.out.trans (hb2.mono HB1.out.size))
 have HR2 := Lib.hid (HR1.out.below hb2 HR1.out.lt)
 have hs2 := HR2.out.lt
 clear hb2 hpl HC
 rw [show str [] = ⟨#[]⟩ from rfl]
 go_wp2_with (first
  | (refine wpList_store_at rfl _ _ _ rfl rfl w2.heap.size _ _ [_, _, _, _, _, _] rfl rfl (At.new w2 _ _) 6 Tryz.sizePlan rfl rfl rfl ?_; intro w3 hA3 hg3; have hb3 : Below w2.heap.size w2 w3 := below_grown ((Below.refl _ _).alloc (Nat.le_refl _) _) hg3 (by simp) (Nat.le_refl _); have hR3 := HR2.out.below hb3 hs2; obtain ⟨p0, p1, p2, p3, p4, p5⟩ := at_six hA3)
  | (refine wpList_store_at rfl _ _ _ rfl rfl (w.heap.size + 1) _ _ [_, _, _, _, _, _] rfl rfl hR3 6 Tryz.sizePlan rfl rfl rfl ?_; intro w4 hA4 hg4))
 refine bodyPost_ret (results_cell_row rfl _ _ (w.heap.size + 1) _ _ (0, 0) _ rfl hA4 Tryz.underlying45 rfl Tryz.sizePlan) rfl ⟨⟨_, rfl, ?_⟩, below_grown (HB2.out.trans (hb3.mono HB2.out.size)) hg4 (Nat.le_trans HB2.out.size hb3.size) (Nat.le_succ _)⟩
 exact (HPL.out.below hb3).stay fun t ht => Stay.far hR3 ht hg4
end Go.Proofs.YtccndcebbjipnaaGreatDoor
end
section
namespace Go.Proofs.YtccndcebbjipnaaGreatDoor
open Go.RowKit
open Lx
set_option linter.unusedVariables false
set_option linter.unusedSimpArgs false
set_option maxRecDepth 100000
set_option maxHeartbeats 16000000 in
theorem rname8_any (v : Value) (T V : List Rd.Name) (i : Int) (B : Nat) (w : World) (h : SymC w B v T V) (hB : B ≤ w.heap.size) (hT : T.length ≤ 1000000) (hV : V.length ≤ 1000000) :
    Calls Tryz.prog 24 #[v, .int .i64 i] w fun e w' => e = .returned (.string (str (Nm.nameAt T V i))) ∧ Below w.heap.size w w' := by
  obtain ⟨A1, c1, A2, c2, A3, n3, c3, A4, n4, c4, A5, n5, c5, A6, n6, c6, rfl, h1, h2⟩ := h.ex
  have hb := (Below.refl w.heap.size w).alloc (Nat.le_refl _) (.cells #[.slice A1 T.length c1, .slice A2 V.length c2, .slice A3 n3 c3, .slice A4 n4 c4, .slice A5 n5 c5, .slice A6 n6 c6] 45)
  have HC1 := Lib.hid (h1.below (hb.mono hB))
  have HC2 := Lib.hid (h2.below (hb.mono hB))
  have HNE := Lib.hid (show Nm.nameAt T V i = if i < 0 ∨ (T.length : Int) + (V.length : Int) < i then [] else if i = (T.length : Int) + (V.length : Int) then Nm.accN else if i < (T.length : Int) then T.getD i.toNat [] else V.getD (i - (T.length : Int)).toNat [] from rfl)
  have HG1 := Lib.hid (fun k (hk : k < T.length) => getD_get hk)
  have HG2 := Lib.hid (fun k (hk : k < V.length) => getD_get hk)
  obtain ⟨R, hR⟩ : ∃ R, str (Nm.nameAt T V i) = R := ⟨_, rfl⟩
  have HR := Lib.hid hR
  rw [hR]
  generalize T.length = NT at HC1 HC2 hb hT HNE HG1 ⊢
  generalize V.length = NV at HC1 HC2 hb hV HNE HG2 ⊢
  have HB := Lib.hid hb
  clear h h1 h2 hb hR
  by_cases h0 : i < 0
  · have hr : R = ⟨#[]⟩ := by rw [← HR.out, HNE.out, if_pos (.inl h0)]; rfl
    subst hr
    have h3 : ¬ (0 ≤ i) := by omega
    have h4 : ¬ ((NT : Int) ≤ i) := by omega
    have e1 : (i == (NT : Int) + (NV : Int)) = false := beq_eq_false_iff_ne.2 (by omega)
    go_enter Tryz.func24, Tryz.ntmps24
    go_wp2_with fail
    go_ret
    exact ⟨rfl, HB.out⟩
  · have h3 : 0 ≤ i := by omega
    by_cases hhi : (NT : Int) + (NV : Int) < i
    · have hr : R = ⟨#[]⟩ := by rw [← HR.out, HNE.out, if_pos (.inr hhi)]; rfl
      subst hr
      have h4 : ¬ (i < (NT : Int)) := by omega
      have h5 : (NT : Int) ≤ i := by omega
      have h6 : ¬ (i < (NT : Int) + (NV : Int)) := by omega
      have e1 : (i == (NT : Int) + (NV : Int)) = false := beq_eq_false_iff_ne.2 (by omega)
      go_enter Tryz.func24, Tryz.ntmps24
      go_wp2_with fail
      go_ret
      exact ⟨rfl, HB.out⟩
    · have hno : ¬ (i < 0 ∨ (NT : Int) + (NV : Int) < i) := by omega
      have HNO := Lib.hid hno
      clear hno
      by_cases hac : i = (NT : Int) + (NV : Int)
      · have hr : R = str Nm.accN := by rw [← HR.out, HNE.out, if_neg HNO.out, if_pos hac]
        have e1 : (i == (NT : Int) + (NV : Int)) = true := beq_iff_eq.2 hac
        have HRR := Lib.hid hr
        have h4 : ¬ (i < (NT : Int)) := by omega
        have h5 : (NT : Int) ≤ i := by omega
        have h6 : ¬ (i < (NT : Int) + (NV : Int)) := by omega
        clear hr hac
        go_enter Tryz.func24, Tryz.ntmps24
        go_wp2_with fail
        go_ret
        exact ⟨by rw [HRR.out]; rfl, HB.out⟩
      · have HAN := Lib.hid hac
        by_cases ht : i < (NT : Int)
        · obtain ⟨k, rfl⟩ : ∃ k : Nat, i = (k : Int) := ⟨i.toNat, by omega⟩
          have hr : R = str (T.getD k []) := by rw [← HR.out, HNE.out, if_neg HNO.out, if_neg HAN.out, if_pos ht, Int.toNat_natCast]
          have hg := HG1.out k (by omega)
          obtain ⟨X, hX⟩ : ∃ X, T.getD k [] = X := ⟨_, rfl⟩
          rw [hX] at hr hg
          obtain ⟨b, o, rfl, hbb, z9⟩ := cl_get HC1.out hg
          subst hr
          clear hg hX hac
          generalize str X = XX at z9 ⊢
          go_enter Tryz.func24, Tryz.ntmps24
          go_wp2_with fail
          go_ret
          exact ⟨rfl, HB.out⟩
        · obtain ⟨k, rfl⟩ : ∃ k : Nat, i = (NT : Int) + (k : Int) := ⟨(i - (NT : Int)).toNat, by omega⟩
          have hsub : (NT : Int) + (k : Int) - (NT : Int) = (k : Int) := by omega
          have hr : R = str (V.getD k []) := by rw [← HR.out, HNE.out, if_neg HNO.out, if_neg HAN.out, if_neg ht, hsub, Int.toNat_natCast]
          have hg := HG2.out k (by omega)
          obtain ⟨X, hX⟩ : ∃ X, V.getD k [] = X := ⟨_, rfl⟩
          rw [hX] at hr hg
          obtain ⟨b, o, rfl, hbb, z9⟩ := cl_get HC2.out hg
          have hk0 : (0 : Int) ≤ (k : Int) := by omega
          have hk1 : (k : Int) < (NV : Int) := by omega
          have h5 : (NT : Int) ≤ (NT : Int) + (k : Int) := by omega
          have h6 : (NT : Int) + (k : Int) < (NT : Int) + (NV : Int) := by omega
          have hk2 : k ≤ 1000000 := by omega
          subst hr
          clear hg hX hac
          generalize str X = XX at z9 ⊢
          go_enter Tryz.func24, Tryz.ntmps24
          go_wp2_with fail
          go_ret
          exact ⟨rfl, HB.out⟩
end Go.Proofs.YtccndcebbjipnaaGreatDoor
end
