import Derived.Test.YtccndcebbjipnaaGreatDoorT40
import Derived.BigQuiet
import Derived.Deep.QuietTactic
import Derived.Test.YtccndcebbjipnaaGreatDoorT19
import Derived.Test.YtccndcebbjipnaaGreatDoorT23
import Derived.Deep.RegionHeld3
import Derived.Deep.DrawnRows
section
namespace Go.Proofs.YtccndcebbjipnaaGreatDoor
open Go.RowKit
open Lx
set_option linter.unusedVariables false
set_option linter.unusedSimpArgs false
set_option maxRecDepth 100000
set_option maxHeartbeats 2000000 in
theorem sfew_any (v : Value) (s : Sm.S) (r K B : Nat) (w : World) (h : SmallC w B v s) (hB : B ≤ w.heap.size) (hs : SmSz s) (hr : r ≤ 1000) (hK : K ≤ 1000) :
  Calls Tryz.prog 20 #[v, .int .i64 (r : Int), .int .i64 (K : Int)] w fun e w' => e = .returned (.bool (Sm.few s r K)) ∧ Below w.heap.size w w' := by
 obtain ⟨A1, c1, A2, c2, A3, c3, A4, c4, A5, c5, ql, rfl, k1, k2, k3, k4, k5, k6, k7⟩ := h.ex
 have hql : ql.length = s.rights.length := by rw [← k3, List.length_map]
 have HSZ := Lib.hid hs
 have z2 := hs.n2
 have z1 := hs.n1
 have z4 := hs.n4
 have HF := Lib.hid (show Sm.few s r K = (decide (s.lefts.length ≤ r ∧ s.assocs.length ≤ 5) && s.rights.all fun l => decide (l.length ≤ K)) from rfl)
 obtain ⟨F, hF⟩ : ∃ F, Sm.few s r K = F := ⟨_, rfl⟩
 rw [hF] at HF ⊢
 obtain ⟨n1, hn1⟩ : ∃ n, s.lefts.length = n := ⟨_, rfl⟩
 obtain ⟨n2, hn2⟩ : ∃ n, s.rights.length = n := ⟨_, rfl⟩
 obtain ⟨n3, hn3⟩ : ∃ n, s.precs.length = n := ⟨_, rfl⟩
 obtain ⟨n4, hn4⟩ : ∃ n, s.assocs.length = n := ⟨_, rfl⟩
 obtain ⟨n5, hn5⟩ : ∃ n, s.levels.length = n := ⟨_, rfl⟩
 obtain ⟨x1, hx1⟩ : ∃ x : Int, (s.tokens : Int) = x := ⟨_, rfl⟩
 obtain ⟨x2, hx2⟩ : ∃ x : Int, (s.vars : Int) = x := ⟨_, rfl⟩
 rw [hn1] at HF z1 ⊢
 rw [hn2] at hql z2 ⊢
 rw [hn4] at HF z4 ⊢
 rw [hn3, hn5, hx1, hx2]
 have hb := (Below.refl w.heap.size w).alloc (Nat.le_refl _) (.cells #[.int .u8 x1, .int .u8 x2, .slice A1 n1 c1, .slice A2 n2 c2, .slice A3 n3 c3, .slice A4 n4 c4, .slice A5 n5 c5] 52)
 have hat := At.new w 52 #[.int .u8 x1, .int .u8 x2, .slice A1 n1 c1, .slice A2 n2 c2, .slice A3 n3 c3, .slice A4 n4 c4, .slice A5 n5 c5]
 obtain ⟨W0, hW0⟩ : ∃ W0, w.alloc (.cells #[.int .u8 x1, .int .u8 x2, .slice A1 n1 c1, .slice A2 n2 c2, .slice A3 n3 c3, .slice A4 n4 c4, .slice A5 n5 c5] 52) = W0 := ⟨_, rfl⟩
 have HL := Lib.hid (k2.below (hb.mono hB))
 have HU := Lib.hid (show ∀ p ∈ ql, U8C W0 B p.2 p.1 from fun p hp => hW0 ▸ (k4 p hp).below (hb.mono hB))
 rw [hW0] at hb hat HL
 have HW0 := Lib.hid hW0
 obtain ⟨g, hg⟩ : ∃ g, w.heap.size = g := ⟨_, rfl⟩
 rw [hg] at hat
 have hb2 := hb
 rw [hg] at hb2
 have HB := Lib.hid hb
 have HAT := Lib.hid hat
 have HQ := Lib.hid k3
 have HQL := Lib.hid hql
 have HG := Lib.hid hg
 clear h hs k1 k2 k3 k4 k5 k6 k7 hn1 hn2 hn3 hn4 hn5 hx1 hx2 hF hb hat hW0 hb2 hql
 by_cases h1 : r < n1
 ·have hf : F = false := by rw [HF.out, decide_eq_false (by omega)]; rfl
  have g1 : (r : Int) < (n1 : Int) := by omega
  have HFF := Lib.hid hf
  clear h1 hf hg
  go_enter Tryz.func20, Tryz.ntmps20
  go_wp2_with fail
  rw [HW0.out]
  go_ret
  exact ⟨by rw [HFF.out]; rfl, HB.out⟩
 ·have g1 : ¬ (r : Int) < (n1 : Int) := by omega
  by_cases h4 : 5 < n4
  ·have hf : F = false := by rw [HF.out, decide_eq_false (by omega)]; rfl
   have g4 : (5 : Int) < (n4 : Int) := by omega
   have HFF := Lib.hid hf
   clear h1 h4 hf hg
   go_enter Tryz.func20, Tryz.ntmps20
   go_wp2_with fail
   rw [HW0.out]
   go_ret
   exact ⟨by rw [HFF.out]; rfl, HB.out⟩
  ·have g4 : ¬ (5 : Int) < (n4 : Int) := by omega
   have HFF := Lib.hid (show F = s.rights.all fun l => decide (l.length ≤ K) by rw [HF.out, decide_eq_true (by omega)]; rfl)
   clear h1 h4 HF
   go_enter Tryz.func20, Tryz.ntmps20
   go_wp2_with fail
   rw [HW0.out]
   try rw [hg]
   clear hg g1 g4
   go_loopw [7] (fun i wr => ∃ (k m : Nat), k ≤ n2 ∧ i = .int .i64 (k : Int) ∧ (∀ p ∈ ql.take k, p.1.length ≤ K) ∧ wr = W0.drewN m) (fun i _ => n2 - (intOf i).toNat)
   case atStart => exact ⟨0, 0, by omega, rfl, by simp, rfl⟩
   case round =>
    obtain ⟨k, m, hk, rfl, hall, rfl⟩ := hrel
    have HALL := Lib.hid hall
    have q3 := HAT.out.cell 3
    simp only [List.getElem?_toArray, List.getElem?_cons_zero, List.getElem?_cons_succ] at q3
    have hgl := HAT.out.lt
    clear hall
    by_cases hlt : k < n2
    ·obtain ⟨p, hp⟩ := some_get (l := ql) (i := k) (by rw [HQL.out]; exact hlt)
     have hpm := List.mem_of_getElem? hp
     obtain ⟨A, c, he, hcl⟩ := HU.out p hpm
     have hpv : (ql.map (·.2))[k]? = some p.2 := by simp [hp]
     obtain ⟨b, o, hA, hbl, hcell⟩ := HL.out.ex (fun e => by rw [e] at hpv; simp at hpv)
     subst hA
     have y0 := hcell _ _ hpv
     rw [he] at y0
     have hlm := (HSZ.out.right p.1 (by rw [← HQ.out]; exact List.mem_map.2 ⟨p, hpm, rfl⟩)).1
     have HP := Lib.hid hp
     have hki : (k : Int) < (n2 : Int) := by omega
     have hk0 : (0 : Int) ≤ (k : Int) := by omega
     obtain ⟨ln, hln⟩ : ∃ n, p.1.length = n := ⟨_, rfl⟩
     rw [hln] at y0 hlm
     have HLN := Lib.hid hln
     clear hp hpm he hcl hpv hcell hln
     by_cases hK2 : K < ln
     ·have c1 : (K : Int) < (ln : Int) := by omega
      have HFA := Lib.hid (show F = false by
       rw [HFF.out, ← HQ.out, List.all_map]
       refine List.all_eq_false.2 ⟨p, List.mem_of_getElem? HP.out, ?_⟩
       simp [HLN.out]; omega)
      clear hK2
      go_wp2_with fail
      go_ret
      exact ⟨by rw [HFA.out]; rfl, below_drewN HB.out _⟩
     ·have c1 : ¬ (K : Int) < (ln : Int) := by omega
      have HLE := Lib.hid (show ln ≤ K by omega)
      clear hK2
      go_wp2_with fail
      go_roundw
      case rel =>
       refine ⟨k + 1, _, by omega, by go_num, fun q hq => ?_, rfl⟩
       rw [List.take_add_one, HP.out] at hq
       rcases List.mem_append.1 hq with h1 | h1
       ·exact HALL.out q h1
       ·simp at h1; subst h1; rw [HLN.out]; exact HLE.out
      case measure => simp [intOf]; omega
    ·obtain rfl : n2 = k := by omega
     have HFA := Lib.hid (show F = true by
      rw [HFF.out, ← HQ.out, List.all_map, List.all_eq_true]
      intro q hq
      have := HALL.out q (by rw [← HQL.out, List.take_length]; exact hq)
      simpa using this)
     go_wp2_with fail
     go_ret
     exact ⟨by rw [HFA.out]; rfl, below_drewN HB.out _⟩
end Go.Proofs.YtccndcebbjipnaaGreatDoor
end
section
namespace Go.Proofs.YtccndcebbjipnaaGreatDoor
namespace Pr
open Rd (Name Pat Tok Lev Rule G)
set_option linter.unusedVariables false
set_option linter.unusedSimpArgs false
theorem rises_len {l : List UInt8} (h : rises l = true) : l.length ≤ 256 := by
  have h1 := filter_rises 256 0 l h (fun x _ => ⟨by omega, by have := x.toNat_lt; omega⟩)
  have h2 := congrArg List.length h1
  rw [List.length_map] at h2
  rw [← h2]
  exact Nat.le_trans (List.length_filter_le _ _) (by simp)
theorem name_len {n : Name} (h : nameOk n = true) : n.length ≤ 32 := (nameOk_ex h).1
theorem action_len {a : Name} (h : actOk a = true) : a.length ≤ 200 := by
  unfold actOk at h
  rw [beq_iff_eq] at h
  have : ∀ (l acc : List UInt8) (o : Nat) {k n : Nat} {t : List UInt8}, Lx.act l acc o = .mark k t n → t.length ≤ 200 := fun l acc o k n t h => (act_mark l acc o h).2.2
  exact this _ _ _ h
theorem flat_len {α : Type} {f : α → List UInt8} {m : Nat} {l : List α} (h : ∀ x ∈ l, (f x).length ≤ m) : (l.flatMap f).length ≤ m * l.length := by
  induction l with
  | nil => simp
  | cons x r ih =>
    have h1 := h x (by simp)
    have h2 := ih (fun y hy => h y (by simp [hy]))
    rw [List.flatMap_cons, List.length_append, List.length_cons, Nat.mul_add]
    omega
end Pr
end Go.Proofs.YtccndcebbjipnaaGreatDoor
namespace Go.Proofs.YtccndcebbjipnaaGreatDoor
open Go.RowKit
open Lx
attribute [local go_sem ↓] Go.wp_at_zero Go.wp_at_succ
set_option linter.unusedVariables false
set_option linter.unusedSimpArgs false
set_option maxRecDepth 100000
def printV (G : Rd.G) : Value := if Pr.rightB G = true then (if 4000 < (Pr.text G).length then .tuple #[.string (str []), .int .i64 12] else .tuple #[.string (str (Pr.text G)), .int .i64 0]) else .tuple #[.string (str []), .int .i64 1]
end Go.Proofs.YtccndcebbjipnaaGreatDoor
end
