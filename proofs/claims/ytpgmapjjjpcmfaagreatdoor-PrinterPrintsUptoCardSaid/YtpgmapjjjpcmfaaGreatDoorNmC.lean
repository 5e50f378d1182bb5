/-
  A whole plan in memory ('PlanC'); the walks of names.Show and tronageref08.Show.
-/
import Derived.Test.YtpgmapjjjpcmfaaGreatDoorNmB1
import Derived.Test.YtpgmapjjjpcmfaaGreatDoorPrZ
import Derived.Deep.RegionHeld3
namespace Go.Proofs.YtpgmapjjjpcmfaaGreatDoor
open Go.RowKit
open Lx
set_option linter.unusedVariables false
set_option linter.unusedSimpArgs false
set_option maxRecDepth 100000

def vals (l : List Int) : List Value := l.map (.int .i64 ·)
theorem vals_length (l : List Int) : (vals l).length = l.length := by simp [vals]
theorem vals_append (l m : List Int) : vals (l ++ m) = vals l ++ vals m := by simp [vals]
theorem vals_get {l : List Int} {k : Nat} {x : Int} (h : l[k]? = some x) : (vals l)[k]? = some (.int .i64 x) := by simp [vals, h]
theorem vals_one (l : List Int) : ∀ u ∈ vals l, u.oneCell' = true := by
  intro u hu
  simp only [vals, List.mem_map] at hu
  obtain ⟨x, _, rfl⟩ := hu
  rfl
/-- A value that is the list of numbers l. -/
def IntC (w : World) (B : Nat) (v : Value) (l : List Int) : Prop := ∃ A cap, v = .slice A l.length cap ∧ Cl w B A (vals l)
theorem IntC.below {w w' : World} {B : Nat} {v : Value} {l : List Int} (h : IntC w B v l) (hb : Below B w w') : IntC w' B v l := by
  obtain ⟨A, cap, h1, h2⟩ := h; exact ⟨A, cap, h1, h2.below hb⟩
theorem IntC.mono {w : World} {B B' : Nat} {v : Value} {l : List Int} (h : IntC w B v l) (hB : B ≤ B') : IntC w B' v l := by
  obtain ⟨A, cap, h1, h2⟩ := h; exact ⟨A, cap, h1, h2.mono hB⟩
def prodC (p : Nm.Prod × Value) : List Value := [.int .i64 p.1.left, p.2, .int .i64 p.1.level]
def prodsV (l : List (Nm.Prod × Value)) : List Value := l.flatMap prodC
theorem prodsV_append (l m : List (Nm.Prod × Value)) : prodsV (l ++ m) = prodsV l ++ prodsV m := by unfold prodsV; rw [List.flatMap_append]
theorem prodsV_length (l : List (Nm.Prod × Value)) : (prodsV l).length = l.length * 3 := by
  unfold prodsV
  induction l with
  | nil => rfl
  | cons a r ih => rw [List.flatMap_cons, List.length_append, ih, List.length_cons]; simp only [prodC, List.length_cons, List.length_nil]; omega
/-- The rules of a plan lie at A. -/
structure ProdsC (w : World) (B : Nat) (A : Option Addr) (L : List Nm.Prod) : Prop where
  ex : ∃ pl, Cl w B A (prodsV pl) ∧ pl.map (·.1) = L ∧ ∀ p ∈ pl, IntC w B p.2 p.1.right
theorem ProdsC.below {w w' : World} {B : Nat} {A : Option Addr} {L : List Nm.Prod} (h : ProdsC w B A L) (hb : Below B w w') : ProdsC w' B A L := by
  obtain ⟨pl, h1, h2, h3⟩ := h.ex
  exact ⟨pl, h1.below hb, h2, fun p hp => (h3 p hp).below hb⟩
theorem ProdsC.mono {w : World} {B B' : Nat} {A : Option Addr} {L : List Nm.Prod} (h : ProdsC w B A L) (hB : B ≤ B') : ProdsC w B' A L := by
  obtain ⟨pl, h1, h2, h3⟩ := h.ex
  exact ⟨pl, h1.mono hB, h2, fun p hp => (h3 p hp).mono hB⟩
theorem ProdsC.nil (w : World) (B : Nat) (A : Option Addr) : ProdsC w B A [] := ⟨[], Cl.nil _ _ _, rfl, fun p hp => by simp at hp⟩
/-- What there is of rule number k. -/
theorem ProdsC.get {w : World} {B : Nat} {A : Option Addr} {L : List Nm.Prod} (h : ProdsC w B A L) {k : Nat} {x : Nm.Prod} (hk : L[k]? = some x) :
    ∃ b o A' c', A = some ⟨b, o, none⟩ ∧ b < B ∧ w.cell? ⟨b, o + k * 3, none⟩ = some (.int .i64 x.left) ∧ w.cell? ⟨b, o + k * 3 + 1, none⟩ = some (.slice A' x.right.length c') ∧ w.cell? ⟨b, o + k * 3 + 2, none⟩ = some (.int .i64 x.level) ∧ Cl w B A' (vals x.right) := by
  obtain ⟨pl, h1, h2, h3⟩ := h.ex
  have hk2 := hk
  rw [← h2, List.getElem?_map, Option.map_eq_some_iff] at hk2
  obtain ⟨p, hp, rfl⟩ := hk2
  obtain ⟨A', c', e, hc⟩ := h3 p (List.mem_of_getElem? hp)
  have hv := fun j u (hj : j < 3) (hu : (prodC p)[j]? = some u) => flat_get prodC 3 (fun _ => rfl) pl k j p u hp hj hu
  obtain ⟨b, o, rfl, hb, hcell⟩ := h1.ex (fun e => by
    have h : (prodsV pl)[k * 3 + 0]? = some (.int .i64 p.1.left) := hv 0 _ (by omega) rfl
    rw [e] at h; simp at h)
  refine ⟨b, o, A', c', rfl, hb, hcell _ _ (hv 0 _ (by omega) rfl), ?_, ?_, hc⟩
  · rw [Nat.add_assoc, ← e]
    exact hcell _ _ (hv 1 _ (by omega) rfl)
  · rw [Nat.add_assoc]
    exact hcell _ _ (hv 2 _ (by omega) rfl)
/-- A value that is the plan P. -/
structure PlanC (w : World) (B : Nat) (v : Value) (P : Nm.Plan) : Prop where
  ex : ∃ A1 c1 A2 c2 A3 c3 A4 c4 A5 c5 A6 c6, v = .agg #[.slice A1 P.terms.length c1, .slice A2 P.vars.length c2, .slice A3 P.rules.length c3, .slice A4 P.levels.length c4, .slice A5 P.assocs.length c5, .slice A6 P.acts.length c6] ∧
    Cl w B A1 (namesV P.terms) ∧ Cl w B A2 (namesV P.vars) ∧ ProdsC w B A3 P.rules ∧ Cl w B A4 (vals P.levels) ∧ Cl w B A5 (vals P.assocs) ∧ Cl w B A6 (namesV P.acts)
theorem PlanC.below {w w' : World} {B : Nat} {v : Value} {P : Nm.Plan} (h : PlanC w B v P) (hb : Below B w w') : PlanC w' B v P := by
  obtain ⟨A1, c1, A2, c2, A3, c3, A4, c4, A5, c5, A6, c6, e, h1, h2, h3, h4, h5, h6⟩ := h.ex
  exact ⟨A1, c1, A2, c2, A3, c3, A4, c4, A5, c5, A6, c6, e, h1.below hb, h2.below hb, h3.below hb, h4.below hb, h5.below hb, h6.below hb⟩
theorem PlanC.mono {w : World} {B B' : Nat} {v : Value} {P : Nm.Plan} (h : PlanC w B v P) (hB : B ≤ B') : PlanC w B' v P := by
  obtain ⟨A1, c1, A2, c2, A3, c3, A4, c4, A5, c5, A6, c6, e, h1, h2, h3, h4, h5, h6⟩ := h.ex
  exact ⟨A1, c1, A2, c2, A3, c3, A4, c4, A5, c5, A6, c6, e, h1.mono hB, h2.mono hB, h3.mono hB, h4.mono hB, h5.mono hB, h6.mono hB⟩
theorem PlanC.sym {w : World} {B : Nat} {v : Value} {P : Nm.Plan} (h : PlanC w B v P) : SymC w B v P.terms P.vars := by
  obtain ⟨A1, c1, A2, c2, A3, c3, A4, c4, A5, c5, A6, c6, e, h1, h2, h3, h4, h5, h6⟩ := h.ex
  exact ⟨A1, c1, A2, c2, A3, _, c3, A4, _, c4, A5, _, c5, A6, _, c6, e, h1, h2⟩
theorem PlanC.empty (w : World) (B : Nat) : PlanC w B (.agg #[.slice none 0 0, .slice none 0 0, .slice none 0 0, .slice none 0 0, .slice none 0 0, .slice none 0 0]) Nm.empty :=
  ⟨none, 0, none, 0, none, 0, none, 0, none, 0, none, 0, rfl, Cl.nil _ _ _, Cl.nil _ _ _, ProdsC.nil _ _ _, Cl.nil _ _ _, Cl.nil _ _ _, Cl.nil _ _ _⟩
/-- A plan of things that are few, and short. -/
structure PSz (P : Nm.Plan) : Prop where
  t : P.terms.length ≤ 1000
  v : P.vars.length ≤ 1000
  r : P.rules.length ≤ 1000
  l : P.levels.length ≤ 1000
  a : P.assocs.length ≤ 1000
  c : P.acts.length ≤ 1000
  tn : ∀ n ∈ P.terms, n.length ≤ 32
  vn : ∀ n ∈ P.vars, n.length ≤ 32
  rr : ∀ x ∈ P.rules, x.right.length ≤ 1000
theorem PSz.empty : PSz Nm.empty := ⟨by decide, by decide, by decide, by decide, by decide, by decide, fun n hn => by simp [Nm.empty] at hn, fun n hn => by simp [Nm.empty] at hn, fun n hn => by simp [Nm.empty] at hn⟩
theorem getD_len {l : List Rd.Name} (h : ∀ n ∈ l, n.length ≤ 32) (k : Nat) : (l.getD k []).length ≤ 32 := by
  by_cases hk : k < l.length
  · exact h _ (List.mem_of_getElem? (getD_get hk))
  · simp [List.getD, List.getElem?_eq_none (Nat.le_of_not_lt hk)]
theorem nameAt_len {T V : List Rd.Name} (hT : ∀ n ∈ T, n.length ≤ 32) (hV : ∀ n ∈ V, n.length ≤ 32) (i : Int) : (Nm.nameAt T V i).length ≤ 32 := by
  unfold Nm.nameAt
  split
  · simp
  · split
    · decide
    · split
      · exact getD_len hT _
      · exact getD_len hV _
/-- The words that a rule's text has. -/
def showW (P : Nm.Plan) (x : Nm.Prod) : List Rd.Name := Nm.nameAt P.terms P.vars x.left :: [58] :: x.right.map (Nm.nameAt P.terms P.vars)
theorem show_none (P : Nm.Plan) {r : Int} (h : r < 0 ∨ (P.rules.length : Int) ≤ r) : Nm.showT P r = [] := by unfold Nm.showT; rw [if_pos h]
theorem show_some (P : Nm.Plan) {k : Nat} {x : Nm.Prod} (h : P.rules[k]? = some x) : Nm.showT P (k : Int) = jn (showW P x) := by
  have hlt := (List.getElem?_eq_some_iff.1 h).1
  have e : P.rules.getD ((k : Int)).toNat ⟨0, [], 0⟩ = x := by rw [Int.toNat_natCast]; simp [List.getD, h]
  unfold Nm.showT
  rw [if_neg (by omega), e]
  have e2 : jn (showW P x) = Nm.nameAt P.terms P.vars x.left ++ Pr.rowT ([58] :: x.right.map (Nm.nameAt P.terms P.vars)) := rfl
  rw [e2]
  unfold Pr.rowT
  rw [List.flatMap_cons, List.flatMap_map]
theorem showW_len {P : Nm.Plan} (hs : PSz P) {x : Nm.Prod} (hx : x ∈ P.rules) : (showW P x).length ≤ 1002 ∧ ∀ n ∈ showW P x, n.length ≤ 32 := by
  refine ⟨by have := hs.rr x hx; unfold showW; simp; omega, fun n hn => ?_⟩
  unfold showW at hn
  rcases List.mem_cons.1 hn with rfl | hn
  · exact nameAt_len hs.tn hs.vn _
  · rcases List.mem_cons.1 hn with rfl | hn
    · decide
    · obtain ⟨i, _, rfl⟩ := List.mem_map.1 hn
      exact nameAt_len hs.tn hs.vn _

set_option maxHeartbeats 4000000 in
theorem show_any (v : Value) (P : Nm.Plan) (r : Int) (B : Nat) (w : World) (h : PlanC w B v P) (hB : B ≤ w.heap.size) (hs : PSz P) :
    Calls Tryz.prog 48 #[v, .int .i64 r] w fun e w' => e = .returned (.string (str (Nm.showT P r))) ∧ Below w.heap.size w w' := by
  have hsym := h.sym
  obtain ⟨A1, c1, A2, c2, A3, c3, A4, c4, A5, c5, A6, c6, rfl, k1, k2, k3, _⟩ := h.ex
  have hb := (Below.refl w.heap.size w).alloc (Nat.le_refl _) (.cells #[.slice A1 P.terms.length c1, .slice A2 P.vars.length c2, .slice A3 P.rules.length c3, .slice A4 P.levels.length c4, .slice A5 P.assocs.length c5, .slice A6 P.acts.length c6] 45)
  have hat := At.new w 45 #[.slice A1 P.terms.length c1, .slice A2 P.vars.length c2, .slice A3 P.rules.length c3, .slice A4 P.levels.length c4, .slice A5 P.assocs.length c5, .slice A6 P.acts.length c6]
  have HNM := Lib.hid (show ∀ (i : Int) w', Below w.heap.size w w' → Calls Tryz.prog 79 #[.agg #[.slice A1 P.terms.length c1, .slice A2 P.vars.length c2, .slice A3 P.rules.length c3, .slice A4 P.levels.length c4, .slice A5 P.assocs.length c5, .slice A6 P.acts.length c6], .int .i64 i] w' fun e w'' => e = .returned (.string (str (Nm.nameAt P.terms P.vars i))) ∧ Below w'.heap.size w' w'' from
    fun i w' hw' => name8_any _ _ _ i B w' (hsym.below (hw'.mono hB)) (Nat.le_trans hB hw'.size) (by have := hs.t; omega) (by have := hs.v; omega))
  have HP := Lib.hid k3
  have hr1 := hs.r
  by_cases hr : r < 0 ∨ (P.rules.length : Int) ≤ r
  · rw [show_none P hr]
    generalize P.terms.length = n1 at hb ⊢
    generalize P.vars.length = n2 at hb ⊢
    generalize P.rules.length = n3 at hb hr hr1 ⊢
    generalize P.levels.length = n4 at hb ⊢
    generalize P.assocs.length = n5 at hb ⊢
    generalize P.acts.length = n6 at hb ⊢
    have HB := Lib.hid hb
    clear h hsym k1 k2 k3 hb hat HNM HP hs
    by_cases h0 : r < 0
    · clear hr
      go_enter Tryz.func48, Tryz.ntmps48
      go_wp2_with fail
      go_ret
      exact ⟨rfl, HB.out⟩
    · have h1 : (n3 : Int) ≤ r := by omega
      clear hr
      go_enter Tryz.func48, Tryz.ntmps48
      go_wp2_with fail
      go_ret
      exact ⟨rfl, HB.out⟩
  · obtain ⟨k, rfl⟩ : ∃ k : Nat, r = (k : Int) := ⟨r.toNat, by omega⟩
    obtain ⟨x, hx⟩ := some_get (l := P.rules) (i := k) (by omega)
    rw [show_some P hx]
    have hxm := List.mem_of_getElem? hx
    obtain ⟨hwl, hwn⟩ := showW_len hs hxm
    have HX := Lib.hid hx
    have HJ := Lib.hid (show ∀ (n : Nat) (A9 : Option Addr) (cap9 B9 : Nat) (w9 : World), n = (showW P x).length → w9.ownsRow B9 9 1 (.slice A9 n cap9) n (namesV (showW P x)) →
        Calls Tryz.prog 37 #[.slice A9 n cap9, .string ⟨#[32]⟩] w9 fun e w' => e = .returned (.string (str (jn (showW P x)))) ∧ Below w9.heap.size w9 w' from fun n A9 cap9 B9 w9 hnn hown => by
      have hjl := jn_len _ 32 hwn
      have : (showW P x).length * 33 ≤ 1002 * 33 := Nat.mul_le_mul_right _ hwl
      have := join_any _ A9 cap9 w9 (Lie.own hown).cl (by unfold showW; simp) (by rw [← hnn]; exact own_cap hown) (by omega) (by omega)
      rw [← hnn] at this
      exact this)
    have hwe : (showW P x).length = x.right.length + 2 := by unfold showW; simp
    have HW0 := Lib.hid (show (showW P x).take 2 = [Nm.nameAt P.terms P.vars x.left, [58]] from rfl)
    have HWK := Lib.hid (show ∀ q s, x.right[q]? = some s → (showW P x).take (q + 1 + 2) = (showW P x).take (q + 2) ++ [Nm.nameAt P.terms P.vars s] from fun q s hq => by
      rw [show q + 1 + 2 = (q + 2) + 1 by omega, List.take_add_one]
      have : (showW P x)[q + 2]? = some (Nm.nameAt P.terms P.vars s) := by unfold showW; simp [hq]
      rw [this]; rfl)
    have HSZ := Lib.hid (show ∀ i, (str (Nm.nameAt P.terms P.vars i)).size ≤ 32 from fun i => by rw [← bl_length, bl_str]; exact nameAt_len hs.tn hs.vn i)
    obtain ⟨i0, hi, hz0, hz1, hz2⟩ := info_parts strinfo
    have hki : (k : Int) < (P.rules.length : Int) := by omega
    have hk0 : (0 : Int) ≤ (k : Int) := by omega
    generalize P.terms.length = n1 at hb hat HNM ⊢
    generalize P.vars.length = n2 at hb hat HNM ⊢
    generalize P.rules.length = n3 at hb hat HNM hki hr1 ⊢
    generalize P.levels.length = n4 at hb hat HNM ⊢
    generalize P.assocs.length = n5 at hb hat HNM ⊢
    generalize P.acts.length = n6 at hb hat HNM ⊢
    obtain ⟨b, o, A', c', hA, hbl, p0, p1, p2, hcl⟩ := (HP.out.below (hb.mono hB)).get hx
    subst hA
    obtain ⟨m, hm⟩ : ∃ m, x.right.length = m := ⟨_, rfl⟩
    rw [hm] at p1 hwe
    have HM := Lib.hid hm
    have hm3 : m ≤ 1000 := by have := hs.rr x hxm; omega
    obtain ⟨XL, hXL⟩ : ∃ XL, x.left = XL := ⟨_, rfl⟩
    have HXL := Lib.hid hXL
    rw [hXL] at p0
    generalize x.level = XV at p2
    have HB := Lib.hid hb
    have HAT := Lib.hid hat
    have HWE := Lib.hid hwe
    have HCL := Lib.hid hcl
    generalize str (jn (showW P x)) = RES at HJ ⊢
    have hb1 := hb.alloc hb.size (.cells #[.int .i64 XL, .slice A' m c', .int .i64 XV] 86)
    have hat1 := At.new (w.alloc (.cells #[.slice A1 n1 c1, .slice A2 n2 c2, .slice (some ⟨b, o, none⟩) n3 c3, .slice A4 n4 c4, .slice A5 n5 c5, .slice A6 n6 c6] 45)) 86 #[.int .i64 XL, .slice A' m c', .int .i64 XV]
    have hatp1 := hat.alloc (.cells #[.int .i64 XL, .slice A' m c', .int .i64 XV] 86)
    rw [World.size_alloc] at hat1
    have HB1 := Lib.hid hb1
    have HAT1 := Lib.hid hat1
    have HATP1 := Lib.hid hatp1
    have HCL1 := Lib.hid (hcl.below (((Below.refl _ _).alloc (Nat.le_refl _) (.cells #[.int .i64 XL, .slice A' m c', .int .i64 XV] 86)).mono (Nat.le_trans hB hb.size)))
    clear h hsym k1 k2 k3 hb hat hr hx hxm hwl hwn hwe hm hXL hcl hb1 hat1 hatp1 HCL HP hs
    go_enter Tryz.func48, Tryz.ntmps48
    go_wp2_with fail
    refine (HNM.out XL _ HB1.out).mono ?_
    rintro e w3 ⟨rfl, hb3⟩
    have hat3 := HAT1.out.below hb3 HAT1.out.lt
    have hatp3 := HATP1.out.below hb3 HATP1.out.lt
    have HCL3 := Lib.hid (HCL1.out.below (hb3.mono (Nat.le_trans hB HB1.out.size)))
    have HB3 := Lib.hid (HB1.out.trans (hb3.mono HB1.out.size))
    have HATP3 := Lib.hid hatp3
    have z1 : ∀ ob, (w3.alloc ob).cell? ⟨w.heap.size + 1, 1, none⟩ = some (.slice A' m c') := fun ob => (hat3.alloc ob).cell 1
    have hrow := own_built w3 (namesV [Nm.nameAt P.terms P.vars XL, [58]]) 9 (by unfold maxLen; simp [namesV])
    have hrow2 : (w3.alloc (.cells #[.string (str (Nm.nameAt P.terms P.vars XL)), .string ⟨#[58]⟩] 9)).ownsRow w3.heap.size 9 1 (.slice (some ⟨w3.heap.size, 0, none⟩) 2 2) 2 (namesV ((showW P x).take 2)) := by
      rw [HW0.out, HXL.out]; exact hrow
    have HROW := Lib.hid hrow2
    have HB4 := Lib.hid ((Below.refl w3.heap.size w3).alloc (Nat.le_refl _) (.cells #[.string (str (Nm.nameAt P.terms P.vars XL)), .string ⟨#[58]⟩] 9))
    have hgl : w.heap.size < w3.heap.size := by have := hatp3.lt; omega
    generalize str (Nm.nameAt P.terms P.vars XL) = S0 at HROW HB4
    clear hb3 hat3 hatp3 hrow hrow2
    go_wp2_with fail
    clear z1 p0 p1 p2
    go_loopw [6, 31] (fun v i wr => ∃ (q : Nat) (a : Option Addr) (s : Nat), q ≤ m ∧ i = .int .i64 (q : Int) ∧ v = .slice a (q + 2) s ∧ wr.ownsRow w3.heap.size 9 1 v (q + 2) (namesV ((showW P x).take (q + 2))) ∧ Below w3.heap.size w3 wr) (fun _ i _ => m - (intOf i).toNat)
    case atStart => exact ⟨0, _, _, by omega, rfl, rfl, HROW.out, HB4.out⟩
    case round =>
      obtain ⟨q, a, s, hq, rfl, rfl, hown, hb5⟩ := hrel
      have HO := Lib.hid hown
      have HB5 := Lib.hid hb5
      have hsz5 := hb5.size
      have hatp5 := HATP3.out.below hb5 HATP3.out.lt
      have x0 := hatp5.cell 0
      have x1 := hatp5.cell 1
      have x2 := hatp5.cell 2
      have x3 := hatp5.cell 3
      have x4 := hatp5.cell 4
      have x5 := hatp5.cell 5
      simp only [List.getElem?_toArray, List.getElem?_cons_zero, List.getElem?_cons_succ] at x0 x1 x2 x3 x4 x5
      have HB6 := Lib.hid (HB3.out.trans (hb5.mono HB3.out.size))
      clear hown hb5 hatp5
      by_cases hlt : q < m
      · obtain ⟨y, hy⟩ := some_get (l := x.right) (i := q) (by rw [HM.out]; exact hlt)
        have hcl5 := HCL3.out.below (HB5.out.mono (Nat.le_trans hB HB3.out.size))
        obtain ⟨b', o', hA', hbl', hc5⟩ := hcl5.ex (fun e => by
          have h1 := vals_get hy
          rw [e] at h1; simp at h1)
        subst hA'
        have y0 : wr.cell? ⟨b', o' + q, none⟩ = some (.int .i64 y) := hc5 _ _ (vals_get hy)
        have hwk := HWK.out q y hy
        have hnv : namesV ((showW P x).take (q + 1 + 2)) = namesV ((showW P x).take (q + 2)) ++ [.string (str (Nm.nameAt P.terms P.vars y))] := by rw [hwk]; simp [namesV]
        have HNV := Lib.hid hnv
        have HNY := Lib.hid (HNM.out y)
        have hsy := HSZ.out y
        generalize str (Nm.nameAt P.terms P.vars y) = SY at HNV HNY hsy
        have hqi : (q : Int) < (m : Int) := by omega
        have hq0 : (0 : Int) ≤ (q : Int) := by omega
        have hc3 : q + 2 + 1 ≤ maxLen := by unfold maxLen; omega
        have hc4 : (q + 2 + 1) * 16 ≤ 140737488355328 := by omega
        clear hy hcl5 hc5 hwk hnv
        go_wp2_with fail
        refine (HNY.out _ HB6.out).mono ?_
        rintro e w6 ⟨rfl, hb6⟩
        have HO6 := Lib.hid (own_stay HO.out (Stay.below hb6))
        have HB7 := Lib.hid (HB5.out.trans (hb6.mono hsz5))
        have hsz7 := HB7.out.size
        clear hb6 x0 x1 x2 x3 x4 x5
        go_wp2_with (at_builtin; refine wpList_append_own2 _ rfl _ _ 34 rfl w3.heap.size 9 i0 _ 1 16 Tryz.underlying34 hi hz0 hz1 hz2 rfl (by decide) _ _ _ rfl (HO6.out.alloc _) ⟨w6.heap.size, 0, none⟩ 1 1 [.string SY] rfl rfl (cells_new _ _ _) (by simp [Value.oneCell']) hc3 hc4 (by simp; omega) ?_)
        intro v' w8 hown' hg _
        obtain ⟨a8, s8, rfl⟩ := own_form hown'
        have HN8 := Lib.hid (show w8.ownsRow w3.heap.size 9 1 (.slice a8 (q + 1 + 2) s8) (q + 1 + 2) (namesV ((showW P x).take (q + 1 + 2))) by rw [HNV.out]; exact hown')
        have HB8 := Lib.hid (Below.grown (HB7.out.alloc hsz7 _) hg (by simp; omega) (fun j hj => (own_lt HO6.out j hj).1))
        clear hown' hg
        go_wp2_with fail
        go_roundw
        case rel => exact ⟨q + 1, a8, s8, by omega, by go_num, rfl, HN8.out, HB8.out⟩
        case measure => simp [intOf]; omega
      · obtain rfl : m = q := by omega
        have hall : (showW P x).take (m + 2) = showW P x := by rw [← HWE.out, List.take_length]
        rw [hall] at HO
        go_wp2_with fail
        refine (HJ.out _ _ _ _ _ HWE.out.symm HO.out).mono ?_
        rintro e w9 ⟨rfl, hb9⟩
        go_wp2_with fail
        go_ret
        exact ⟨rfl, HB6.out.trans (hb9.mono HB6.out.size)⟩

end Go.Proofs.YtpgmapjjjpcmfaaGreatDoor
