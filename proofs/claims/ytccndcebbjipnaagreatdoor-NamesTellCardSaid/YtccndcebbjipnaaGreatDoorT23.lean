import Derived.Test.YtccndcebbjipnaaGreatDoorT22
import Derived.Test.YtccndcebbjipnaaGreatDoorT19
import Derived.Shelf.Strings.OnBuilder
section
namespace Go.Proofs.YtccndcebbjipnaaGreatDoor
open Go.RowKit
open Lx
set_option linter.unusedVariables false
set_option linter.unusedSimpArgs false
set_option maxRecDepth 100000
set_option maxHeartbeats 16000000 in
theorem name8_any (v : Value) (T V : List Rd.Name) (i : Int) (B : Nat) (w : World) (h : SymC w B v T V) (hB : B ≤ w.heap.size) (hT : T.length ≤ 1000000) (hV : V.length ≤ 1000000) :
    Calls Tryz.prog 23 #[v, .int .i64 i] w fun e w' => e = .returned (.string (str (Nm.nameAt T V i))) ∧ Below w.heap.size w w' := by
  have hsym := h
  obtain ⟨A1, c1, A2, c2, A3, n3, c3, A4, n4, c4, A5, n5, c5, A6, n6, c6, rfl, h1, h2⟩ := h.ex
  have hb := (Below.refl w.heap.size w).alloc (Nat.le_refl _) (.cells #[.slice A1 T.length c1, .slice A2 V.length c2, .slice A3 n3 c3, .slice A4 n4 c4, .slice A5 n5 c5, .slice A6 n6 c6] 45)
  have hat := At.new w 45 #[.slice A1 T.length c1, .slice A2 V.length c2, .slice A3 n3 c3, .slice A4 n4 c4, .slice A5 n5 c5, .slice A6 n6 c6]
  have HAC := Lib.hid (fun w' (hw' : Below w.heap.size w w') => accept_any _ T V B w' (hsym.below (hw'.mono hB)) hT hV)
  have HTE := Lib.hid (fun w' (hw' : Below w.heap.size w w') => term_any _ T V i B w' (hsym.below (hw'.mono hB)) hT)
  have HC1 := Lib.hid h1
  have HC2 := Lib.hid h2
  have HNE := Lib.hid (show Nm.nameAt T V i = if i < 0 ∨ (T.length : Int) + (V.length : Int) < i then [] else if i = (T.length : Int) + (V.length : Int) then Nm.accN else if i < (T.length : Int) then T.getD i.toNat [] else V.getD (i - (T.length : Int)).toNat [] from rfl)
  have HG1 := Lib.hid (fun k (hk : k < T.length) => getD_get hk)
  have HG2 := Lib.hid (fun k (hk : k < V.length) => getD_get hk)
  obtain ⟨R, hR⟩ : ∃ R, str (Nm.nameAt T V i) = R := ⟨_, rfl⟩
  have HR := Lib.hid hR
  rw [hR]
  generalize T.length = NT at HAC HTE hb hat hT HNE HG1 ⊢
  generalize V.length = NV at HAC HTE hb hat hV HNE HG2 ⊢
  have HB := Lib.hid hb
  have HAT := Lib.hid hat
  clear h h1 h2 hb hat hR hsym
  by_cases h0 : i < 0
  · have hr : R = ⟨#[]⟩ := by rw [← HR.out, HNE.out, if_pos (.inl h0)]; rfl
    subst hr
    go_enter Tryz.func23, Tryz.ntmps23
    go_wp2_with fail
    go_ret
    exact ⟨rfl, HB.out⟩
  · go_enter Tryz.func23, Tryz.ntmps23
    go_wp2_with fail
    refine (HAC.out _ HB.out).mono ?_
    rintro e w2 ⟨rfl, hb2⟩
    have hat2 := HAT.out.below hb2 HAT.out.lt
    have HAT2 := Lib.hid hat2
    have HB2 := Lib.hid (HB.out.trans (hb2.mono HB.out.size))
    have x0 := hat2.cell 0
    have x1 := hat2.cell 1
    have x2 := hat2.cell 2
    have x3 := hat2.cell 3
    have x4 := hat2.cell 4
    have x5 := hat2.cell 5
    simp only [List.getElem?_toArray, List.getElem?_cons_zero, List.getElem?_cons_succ] at x0 x1 x2 x3 x4 x5
    clear hb2 hat2
    by_cases hhi : (NT : Int) + (NV : Int) < i
    · have hr : R = ⟨#[]⟩ := by rw [← HR.out, HNE.out, if_pos (.inr hhi)]; rfl
      subst hr
      clear x0 x1 x2 x3 x4 x5
      go_wp2_with fail
      go_ret
      exact ⟨rfl, HB2.out⟩
    · have HNO := Lib.hid (show ¬ (i < 0 ∨ (NT : Int) + (NV : Int) < i) by omega)
      go_wp2_with fail
      refine (HAC.out _ HB2.out).mono ?_
      rintro e w3 ⟨rfl, hb3⟩
      have hat3 := HAT2.out.below hb3 HAT2.out.lt
      have HAT3 := Lib.hid hat3
      have HB3 := Lib.hid (HB2.out.trans (hb3.mono HB2.out.size))
      have y0 := hat3.cell 0
      have y1 := hat3.cell 1
      have y2 := hat3.cell 2
      have y3 := hat3.cell 3
      have y4 := hat3.cell 4
      have y5 := hat3.cell 5
      simp only [List.getElem?_toArray, List.getElem?_cons_zero, List.getElem?_cons_succ] at y0 y1 y2 y3 y4 y5
      clear hb3 hat3 x0 x1 x2 x3 x4 x5
      by_cases hac : i = (NT : Int) + (NV : Int)
      · have HRR := Lib.hid (show R = str Nm.accN by rw [← HR.out, HNE.out, if_neg HNO.out, if_pos hac])
        have e1 : (i == (NT : Int) + (NV : Int)) = true := beq_iff_eq.2 hac
        clear hac y0 y1 y2 y3 y4 y5
        go_wp2_with fail
        go_ret
        exact ⟨by rw [HRR.out]; rfl, HB3.out⟩
      · have e1 : (i == (NT : Int) + (NV : Int)) = false := beq_eq_false_iff_ne.2 hac
        have HAN := Lib.hid hac
        clear hac
        go_wp2_with fail
        clear e1
        by_cases ht : i < (NT : Int)
        · have hd : decide (0 ≤ i ∧ i < (NT : Int)) = true := decide_eq_true ⟨by omega, ht⟩
          rw [hd] at HTE
          refine (HTE.out _ HB3.out).mono ?_
          rintro e w4 ⟨rfl, hb4⟩
          have hat4 := HAT3.out.below hb4 HAT3.out.lt
          have HB4 := Lib.hid (HB3.out.trans (hb4.mono HB3.out.size))
          have z0 := hat4.cell 0
          simp only [List.getElem?_toArray, List.getElem?_cons_zero] at z0
          obtain ⟨k, hk⟩ : ∃ k : Nat, i = (k : Int) := ⟨i.toNat, by omega⟩
          have hg := HG1.out k (by omega)
          obtain ⟨X, hX⟩ : ∃ X, T.getD k [] = X := ⟨_, rfl⟩
          rw [hX] at hg
          obtain ⟨b, o, rfl, hbb, z9⟩ := cl_get (HC1.out.below (HB4.out.mono hB)) hg
          have HRR := Lib.hid (show R = str X by rw [← HR.out, HNE.out, if_neg HNO.out, if_neg HAN.out, if_pos ht, hk, Int.toNat_natCast, hX])
          have hk0 : (0 : Int) ≤ (k : Int) := by omega
          generalize str X = XX at z9 HRR
          subst hk
          clear hb4 hat4 y0 y1 y2 y3 y4 y5 hg hX hd hhi h0
          go_wp2_with fail
          go_ret
          exact ⟨by rw [HRR.out]; rfl, HB4.out⟩
        · have hd : decide (0 ≤ i ∧ i < (NT : Int)) = false := decide_eq_false (fun h => ht h.2)
          rw [hd] at HTE
          refine (HTE.out _ HB3.out).mono ?_
          rintro e w4 ⟨rfl, hb4⟩
          have hat4 := HAT3.out.below hb4 HAT3.out.lt
          have HB4 := Lib.hid (HB3.out.trans (hb4.mono HB3.out.size))
          have z0 := hat4.cell 0
          have z1 := hat4.cell 1
          simp only [List.getElem?_toArray, List.getElem?_cons_zero, List.getElem?_cons_succ] at z0 z1
          obtain ⟨k, hk⟩ : ∃ k : Nat, i - (NT : Int) = (k : Int) := ⟨(i - (NT : Int)).toNat, by omega⟩
          have hg := HG2.out k (by have := HAN.out; omega)
          obtain ⟨X, hX⟩ : ∃ X, V.getD k [] = X := ⟨_, rfl⟩
          rw [hX] at hg
          obtain ⟨b, o, rfl, hbb, z9⟩ := cl_get (HC2.out.below (HB4.out.mono hB)) hg
          have HRR := Lib.hid (show R = str X by rw [← HR.out, HNE.out, if_neg HNO.out, if_neg HAN.out, if_neg ht, hk, Int.toNat_natCast, hX])
          have hk0 : (0 : Int) ≤ (k : Int) := by omega
          have hk1 : (k : Int) < (NV : Int) := by have := HAN.out; omega
          have hw : wrap64 (i - (NT : Int)) = (k : Int) := by rw [hk]; unfold wrap64; omega
          generalize str X = XX at z9 HRR
          clear hb4 hat4 y0 y1 y2 y3 y4 y5 hg hX hd hhi h0 ht
          go_wp2_with fail
          go_ret
          exact ⟨by rw [HRR.out]; rfl, HB4.out⟩
end Go.Proofs.YtccndcebbjipnaaGreatDoor
end
section
namespace Go.Proofs.YtccndcebbjipnaaGreatDoor
open Go.RowKit
open Lx
set_option linter.unusedVariables false
set_option linter.unusedSimpArgs false
set_option maxRecDepth 100000
def laysJ_ren : Go.Shelf.Ren := ⟨fun | 156 => 49 | 165 => 83 | 166 => 70 | 169 => 34 | 240 => 84 | 241 => 104 | 276 => 105 | 277 => 126 | n => n, fun | 0 => 0 | 3 => 3 | 4 => 4 | 9 => 9 | 20 => 20 | 31 => 34 | 37 => 49 | 70 => 68 | 72 => 70 | 75 => 91 | 76 => 116 | 127 => 118 | 164 => 143 | 5 => 5 | 80 => 76 | n => n, fun | n => n⟩
theorem laysJ : Go.Proofs.Lays.n156 Tryz.prog laysJ_ren := {
  mixed := by kernel_rfl
  f156 := Tryz.func49.trans (congrArg some (by kernel_rfl))
  f165 := Tryz.func83.trans (congrArg some (by kernel_rfl))
  f166 := Tryz.func70.trans (congrArg some (by kernel_rfl))
  f169 := Tryz.func34.trans (congrArg some (by kernel_rfl))
  f240 := Tryz.func84.trans (congrArg some (by kernel_rfl))
  f241 := Tryz.func104.trans (congrArg some (by kernel_rfl))
  f276 := Tryz.func105.trans (congrArg some (by kernel_rfl))
  f277 := Tryz.func126.trans (congrArg some (by kernel_rfl))
  t0 := Tryz.underlying0
  a0 := Tryz.isAgg0
  z0 := Tryz.sizeOf0
  v0 := Tryz.zeroValue0
  t3 := Tryz.underlying3
  a3 := Tryz.isAgg3
  z3 := Tryz.sizeOf3
  v3 := Tryz.zeroValue3
  t4 := Tryz.underlying4
  a4 := Tryz.isAgg4
  z4 := Tryz.sizeOf4
  v4 := Tryz.zeroValue4
  t9 := Tryz.underlying9
  a9 := Tryz.isAgg9
  z9 := Tryz.sizeOf9
  v9 := Tryz.zeroValue9
  t20 := Tryz.underlying20
  a20 := Tryz.isAgg20
  z20 := Tryz.sizeOf20
  v20 := Tryz.zeroValue20
  t31 := Tryz.underlying34
  a31 := Tryz.isAgg34
  z31 := Tryz.sizeOf34
  v31 := Tryz.zeroValue34
  t37 := Tryz.underlying49
  a37 := Tryz.isAgg49
  z37 := Tryz.sizeOf49
  v37 := Tryz.zeroValue49
  t70 := Tryz.underlying68
  a70 := Tryz.isAgg68
  z70 := Tryz.sizeOf68
  v70 := Tryz.zeroValue68
  t72 := Tryz.underlying70
  a72 := Tryz.isAgg70
  z72 := Tryz.sizeOf70
  v72 := Tryz.zeroValue70
  t75 := Tryz.underlying91
  a75 := Tryz.isAgg91
  z75 := Tryz.sizeOf91
  v75 := Tryz.zeroValue91
  t76 := Tryz.underlying116
  a76 := Tryz.isAgg116
  z76 := Tryz.sizeOf116
  v76 := Tryz.zeroValue116
  t127 := Tryz.underlying118
  a127 := Tryz.isAgg118
  z127 := Tryz.sizeOf118
  v127 := Tryz.zeroValue118
  t164 := Tryz.underlying143
  a164 := Tryz.isAgg143
  z164 := Tryz.sizeOf143
  v164 := Tryz.zeroValue143 }
theorem extraJ : Go.Proofs.Builder.Extra Tryz.prog laysJ_ren := {
  sizeBuilder := by kernel_rfl
  liesBuilder := by kernel_rfl
  t5 := Tryz.underlying5
  a5 := Tryz.isAgg5
  z5 := Tryz.sizeOf5
  v5 := Tryz.zeroValue5
  infoByte := by kernel_rfl
  cellsByte := by kernel_rfl
  sizeByte := by kernel_rfl
  neB5 := by decide }
def jn : List Rd.Name → List UInt8
  | [] => []
  | x :: r => x ++ Pr.rowT r
theorem join_jn (l : List Rd.Name) : Lib.join l [32] = jn l := by
  cases l with
  | nil => rfl
  | cons x r =>
    rw [Lib.join_cons]
    show x ++ Lib.joinTail [32] r = x ++ Pr.rowT r
    congr 1
theorem join_any (l : List Rd.Name) (A : Option Addr) (cap : Nat) (w : World) (hl : Cl w w.heap.size A (namesV l)) (h0 : l ≠ []) (hc : l.length ≤ cap) (hn : (jn l).length ≤ 140737488355328) (hk : l.length ≤ 140737488355328) :
    Calls Tryz.prog 49 #[.slice A l.length cap, .string ⟨#[32]⟩] w fun e w' => e = .returned (.string (str (jn l))) ∧ Below w.heap.size w w' := by
  obtain ⟨b, o, rfl, hb, hcell⟩ := hl.ex (by cases l with | nil => exact absurd rfl h0 | cons a r => simp [namesV])
  have he : (l.map str).map (·.data.toList) = l := by
    rw [List.map_map]
    have : ((fun x : ByteArray => x.data.toList) ∘ str) = id := by funext x; rfl
    rw [this, List.map_id]
  have h := Any.strings_Join (P := Tryz.prog) laysJ extraJ b o cap (l.map str) ⟨#[32]⟩ w (fun j x hx => by
    rw [List.getElem?_map] at hx
    cases hj : l[j]? with
    | none => rw [hj] at hx; cases hx
    | some y =>
      rw [hj] at hx
      injection hx with hx
      subst hx
      exact hcell j _ (namesV_get hj)) hb (by simpa using hk) (by simpa using hc) (by rw [he]; exact (join_jn l).symm ▸ hn)
  rw [he, List.length_map] at h
  refine Calls.mono h fun e w' hh => ⟨?_, hh.2⟩
  rw [hh.1]
  show _ = Ending.returned (.string (⟨(jn l).toArray⟩))
  rw [← join_jn]
end Go.Proofs.YtccndcebbjipnaaGreatDoor
namespace Go.Proofs.YtccndcebbjipnaaGreatDoor
open Go.RowKit
open Lx
set_option linter.unusedVariables false
set_option linter.unusedSimpArgs false
set_option maxRecDepth 100000
theorem own_built (w : World) (cs : List Value) (e : TypeId) (h : cs.length ≤ maxLen) : (w.alloc (.cells cs.toArray e)).ownsRow w.heap.size e 1 (.slice (some ⟨w.heap.size, 0, none⟩) cs.length cs.length) cs.length cs :=
  ⟨(Nat.mul_one _).symm, .inr ⟨w.heap.size, cs.length, cs.toArray, rfl, Nat.le_refl _, At.new w e cs.toArray, Nat.le_refl _, h, by simp, by simp⟩⟩
theorem own_cap {w : World} {B e size n : Nat} {A : Option Addr} {cap : Nat} {xs : List Value} (h : w.ownsRow B e size (.slice A n cap) n xs) : n ≤ cap := by
  rcases own_shape h with ⟨h1, h2, _⟩ | ⟨g, c, h1, h2, _⟩
  · injection h1 with _ _ h3; omega
  · injection h1 with _ _ h3; omega
def precP (p : Rd.Name) : List Rd.Name := if p = [] then [] else [[37, 112, 114, 101, 99], p]
def actP (a : Rd.Name) : List Rd.Name := if a = [] then [] else [123 :: (a ++ [125])]
theorem namesV_append (a b : List Rd.Name) : namesV (a ++ b) = namesV a ++ namesV b := by simp [namesV]
theorem jn_len (l : List Rd.Name) (m : Nat) (h : ∀ x ∈ l, x.length ≤ m) : (jn l).length ≤ l.length * (m + 1) := by
  have hr : ∀ r : List Rd.Name, (∀ x ∈ r, x.length ≤ m) → (Pr.rowT r).length ≤ r.length * (m + 1) := by
    intro r
    induction r with
    | nil => intro _; simp [Pr.rowT]
    | cons x r ih =>
      intro h
      have h1 := h x (by simp)
      have h2 := ih (fun y hy => h y (by simp [hy]))
      unfold Pr.rowT at h2 ⊢
      rw [List.flatMap_cons, List.length_append, List.length_cons, List.length_cons, Nat.add_mul]
      omega
  cases l with
  | nil => simp [jn]
  | cons x r =>
    have h1 := h x (by simp)
    have h2 := hr r (fun y hy => h y (by simp [hy]))
    rw [jn, List.length_append, List.length_cons, Nat.add_mul]
    omega
end Go.Proofs.YtccndcebbjipnaaGreatDoor
end
