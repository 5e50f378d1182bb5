import Derived.Test.YtdhhkancbgealaaGreatT05
import Derived.BigQuiet
import Derived.Deep.QuietTactic
namespace Go.Proofs.YtdhhkancbgealaaGreat
open Go.RowKit
open Lx
set_option linter.unusedVariables false
set_option linter.unusedSimpArgs false
set_option maxRecDepth 100000
namespace Pr
def actR : List UInt8 → Nat → Bool
  | [], o => o == 1
  | c :: r, o => if c = 123 then (if o = 4 then false else actR r (o + 1)) else if c = 125 then (if o = 1 then false else actR r (o - 1)) else actR r o
theorem act_R : ∀ (a acc : List UInt8) (o : Nat), 1 ≤ o → o ≤ 4 → (Lx.act (a ++ [125]) acc o == .mark 9 (acc ++ a) ((acc ++ a).length + 2)) = (decide ((acc ++ a).length ≤ 200) && actR a o)
  | [], acc, o, h1, h4 => by
    rw [List.append_nil, List.nil_append, Lx.act, if_neg (by decide), if_pos rfl]
    by_cases e : o = 1
    · rw [if_pos e]
      by_cases h : 200 < acc.length
      · rw [if_pos h, decide_eq_false (by omega)]; rfl
      · rw [if_neg h, decide_eq_true (by omega), e]; simp [actR]
    · rw [if_neg e, Lx.act, actR]
      rw [show (o == 1) = false from beq_eq_false_iff_ne.2 e, Bool.and_false]; rfl
  | c :: r, acc, o, h1, h4 => by
    have hap : acc ++ c :: r = (acc ++ [c]) ++ r := by simp
    rw [List.cons_append, Lx.act, actR]
    by_cases h3 : c = 123
    · rw [if_pos h3, if_pos h3]
      by_cases e : o = 4
      · rw [if_pos e, if_pos e, Bool.and_false]; rfl
      · rw [if_neg e, if_neg e, hap]
        exact act_R r _ _ (by omega) (by omega)
    · rw [if_neg h3, if_neg h3]
      by_cases h5 : c = 125
      · rw [if_pos h5, if_pos h5]
        by_cases e : o = 1
        · rw [if_pos e, if_pos e, Bool.and_false]
          by_cases h : 200 < acc.length
          · rw [if_pos h]; rfl
          · rw [if_neg h, beq_eq_false_iff_ne]
            intro hh
            injection hh with _ h6 h7
            have := congrArg List.length h6
            simp at this
        · rw [if_neg e, if_neg e, hap]
          exact act_R r _ _ (by omega) (by omega)
      · rw [if_neg h5, if_neg h5, hap]
        exact act_R r _ _ h1 h4
theorem actOk_R (a : List UInt8) : actOk a = (decide (a.length ≤ 200) && actR a 1) := by
  have := act_R a [] 1 (by omega) (by omega)
  rw [List.nil_append] at this
  exact this
def onceB (l : List Rd.Name) : Bool := l.all nameOk && decide l.Nodup
end Pr
theorem rname7_any (n : Rd.Name) (w : World) (hn : n.length ≤ 9223372036854775807) :
    Calls Tryz.prog 83 #[.string (str n)] w fun e w' => e = .returned (.bool (Pr.nameOk n)) ∧ w = w' := by
  rw [nameOk_eq]
  obtain ⟨T, hT⟩ : ∃ T, str n = T := ⟨_, rfl⟩
  have hb : bl T = n := by rw [← hT, bl_str]
  have hs : T.size = n.length := by rw [← bl_length, hb]
  rw [hT]
  clear hT
  by_cases h : n.length ≤ 32
  · have h1 : (T.size : Int) ≤ 32 := by omega
    have H := Lib.hid h
    clear h
    go_enter Tryz.func83, Tryz.ntmps83
    go_wp2_with fail
    refine (rName_any T _ (by omega)).mono ?_
    rintro e w' ⟨rfl, rfl⟩
    rw [hb]
    go_wp2_with fail
    go_ret
    exact ⟨by rw [decide_eq_true H.out]; rfl, rfl⟩
  · have h1 : ¬ (T.size : Int) ≤ 32 := by omega
    have H := Lib.hid h
    clear h
    go_enter Tryz.func83, Tryz.ntmps83
    go_wp2_with fail
    go_ret
    exact ⟨by rw [decide_eq_false H.out]; rfl, rfl⟩
theorem ract7_any (a : List UInt8) (w : World) (hn : a.length ≤ 140737488355328) :
    Calls Tryz.prog 85 #[.string (str a)] w fun e w' => e = .returned (.bool (Pr.actOk a)) ∧ w = w' := by
  rw [Pr.actOk_R]
  obtain ⟨s, hT⟩ : ∃ T, str a = T := ⟨_, rfl⟩
  have hb : bl s = a := by rw [← hT, bl_str]
  have hs : s.size = a.length := by rw [← bl_length, hb]
  rw [hT, ← hb, bl_length]
  clear hT hb hs
  by_cases h : s.size ≤ 200
  · have h1 : ¬ (200 : Int) < (s.size : Int) := by omega
    rw [decide_eq_true h, Bool.true_and]
    obtain ⟨R, hR⟩ : ∃ R, Pr.actR (bl s) 1 = R := ⟨_, rfl⟩
    have HR := Lib.hid hR
    rw [hR]
    clear hR
    go_enter Tryz.func85, Tryz.ntmps85
    go_wp2_with fail
    go_loop [3, 4] (fun v i => ∃ (k o : Nat), k ≤ s.size ∧ 1 ≤ o ∧ o ≤ 4 ∧ i = .int .i64 (k : Int) ∧ v = .int .i64 (o : Int) ∧ R = Pr.actR ((bl s).drop k) o) (fun _ i => s.size - (intOf i).toNat)
    case atStart => exact ⟨0, 1, by omega, by omega, by omega, rfl, rfl, by rw [HR.out.symm]; rfl⟩
    case round =>
      obtain ⟨k, o, hk, ho1, ho4, rfl, rfl, hr⟩ := hrel
      by_cases hlt : k < s.size
      · rw [bl_drop s k hlt, Pr.actR] at hr
        have hki : (k : Int) < (s.size : Int) := by omega
        have hk0 : (0 : Int) ≤ (k : Int) := by omega
        by_cases h3 : s[k] = 123
        · rw [if_pos h3] at hr
          have c3 : ((s[k].toNat : Int) == 123) = true := by rw [h3]; rfl
          have c5 : ((s[k].toNat : Int) == 125) = false := by rw [h3]; rfl
          by_cases e : o = 4
          · subst e
            rw [if_pos rfl] at hr
            subst hr
            go_wp2_with fail
            go_ret
            exact ⟨rfl, rfl⟩
          · rw [if_neg e] at hr
            have HRR := Lib.hid hr
            have g1 : ¬ (4 : Int) < (o : Int) + 1 := by omega
            have g2 : ((o : Int) + 1 == 0) = false := by rw [beq_eq_false_iff_ne]; omega
            clear hr h3
            go_wp2_with fail
            go_roundw
            case rel => exact ⟨k + 1, o + 1, by omega, by omega, by omega, by go_num, by go_num, HRR.out⟩
            case measure => simp [intOf]; omega
        · rw [if_neg h3] at hr
          have n3 : s[k].toNat ≠ 123 := fun h => h3 (UInt8.toNat.inj h)
          have c3 : ((s[k].toNat : Int) == 123) = false := by rw [beq_eq_false_iff_ne]; omega
          by_cases h5 : s[k] = 125
          · rw [if_pos h5] at hr
            have c5 : ((s[k].toNat : Int) == 125) = true := by rw [h5]; rfl
            by_cases e : o = 1
            · subst e
              rw [if_pos rfl] at hr
              subst hr
              clear h3 n3
              go_wp2_with fail
              go_ret
              exact ⟨rfl, rfl⟩
            · rw [if_neg e] at hr
              have HRR := Lib.hid hr
              have g1 : ¬ (4 : Int) < (o : Int) - 1 := by omega
              have g2 : ((o : Int) - 1 == 0) = false := by rw [beq_eq_false_iff_ne]; omega
              clear hr h3 h5 n3
              go_wp2_with fail
              go_roundw
              case rel => exact ⟨k + 1, o - 1, by omega, by omega, by omega, by go_num, by go_num, HRR.out⟩
              case measure => simp [intOf]; omega
          · rw [if_neg h5] at hr
            have n5 : s[k].toNat ≠ 125 := fun h => h5 (UInt8.toNat.inj h)
            have c5 : ((s[k].toNat : Int) == 125) = false := by rw [beq_eq_false_iff_ne]; omega
            have HRR := Lib.hid hr
            have g1 : ¬ (4 : Int) < (o : Int) := by omega
            have g2 : ((o : Int) == 0) = false := by rw [beq_eq_false_iff_ne]; omega
            clear hr h3 h5 n3 n5
            go_wp2_with fail
            go_roundw
            case rel => exact ⟨k + 1, o, by omega, ho1, ho4, by go_num, rfl, HRR.out⟩
            case measure => simp [intOf]; omega
      · obtain rfl : s.size = k := by omega
        rw [show (bl s).drop s.size = [] by rw [← bl_length]; exact List.drop_length, Pr.actR] at hr
        have HRR := Lib.hid hr
        clear hr
        by_cases e : o = 1
        · subst e
          go_wp2_with fail
          go_ret
          exact ⟨by rw [HRR.out]; rfl, rfl⟩
        · have g2 : ((o : Int) == 1) = false := by rw [beq_eq_false_iff_ne]; omega
          have g3 : (o == 1) = false := beq_eq_false_iff_ne.2 e
          rw [g3] at HRR
          clear e g3
          go_wp2_with fail
          go_ret
          exact ⟨by rw [HRR.out]; rfl, rfl⟩
  · have h1 : (200 : Int) < (s.size : Int) := by omega
    rw [decide_eq_false h, Bool.false_and]
    clear h
    go_enter Tryz.func85, Tryz.ntmps85
    go_wp2_with fail
    go_ret
    exact ⟨rfl, rfl⟩
set_option maxHeartbeats 2000000 in
theorem rpat7_any (p : Rd.Pat) (w : World) (h1 : p.text.length ≤ 140737488355328) (h2 : p.set.length ≤ 140737488355328) :
    Calls Tryz.prog 84 #[patV p] w fun e w' => e = .returned (.bool (Pr.patOk p)) ∧ Below w.heap.size w w' := by
  obtain ⟨t, st, m⟩ := p
  simp only [] at h1 h2
  unfold patV
  simp only []
  obtain ⟨T, hT⟩ : ∃ T, str t = T := ⟨_, rfl⟩
  obtain ⟨s, hS⟩ : ∃ S, str st = S := ⟨_, rfl⟩
  have hbT : bl T = t := by rw [← hT, bl_str]
  have hbS : bl s = st := by rw [← hS, bl_str]
  have hTs : T.size = t.length := by rw [← bl_length, hbT]
  have hSs : s.size = st.length := by rw [← bl_length, hbS]
  have eT : (T.toList == (⟨#[]⟩ : ByteArray).toList) = decide (t = []) := by rw [← hT]; exact empty_dec t
  have eT2 : T.toList.isEmpty = decide (t = []) := by rw [← hT]; exact isEmpty_dec t
  have eS2 : s.toList.isEmpty = decide (st = []) := by rw [← hS]; exact isEmpty_dec st
  rw [hT, hS]
  have hat := At.new w 119 #[.string T, .string s, .bool m]
  have hbl := (Below.refl w.heap.size w).alloc (Nat.le_refl _) (.cells #[.string T, .string s, .bool m] 119)
  have HB := Lib.hid hbl
  have HAT := Lib.hid hat
  unfold Pr.patOk
  simp only []
  by_cases ht : t = []
  · rw [if_pos ht]
    rw [decide_eq_true ht] at eT eT2
    have hss : Pr.rises st = Pr.rises (bl s) := by rw [hbS]
    have hne : (st != []) = !decide (st = []) := by cases st <;> simp
    obtain ⟨q, hq⟩ : ∃ q, decide (st = []) = q := ⟨_, rfl⟩
    rw [hq] at eS2 hne
    rw [hss, hne]
    have HQ := Lib.hid hq
    obtain ⟨W0, hW0⟩ : ∃ W0, w.alloc (.cells #[.string T, .string s, .bool m] 119) = W0 := ⟨_, rfl⟩
    rw [hW0] at HB HAT
    have HW0 := Lib.hid hW0
    obtain ⟨g, hg⟩ : ∃ g, w.heap.size = g := ⟨_, rfl⟩
    have HG := Lib.hid hg
    rw [hg] at HAT
    have hlt := HAT.out.lt
    have hsz : s.size ≤ 140737488355328 := by omega
    obtain ⟨R, hR⟩ : ∃ R, Pr.rises (bl s) = R := ⟨_, rfl⟩
    have HR := Lib.hid hR
    rw [hR]
    clear hT hS hbT hbS hTs hSs hat hbl h1 h2 ht hss hne hq hR hW0
    go_enter Tryz.func84, Tryz.ntmps84
    go_wp2_with fail
    rw [HW0.out]
    try rw [hg]
    clear hg
    go_loopw [3] (fun i wr => ∃ (k n : Nat), (k + 1 ≤ s.size ∨ k = 0) ∧ i = .int .i64 ((k : Int) + 1) ∧ wr = W0.drewN n ∧ R = Pr.rises ((bl s).drop k)) (fun i _ => s.size + 1 - (intOf i).toNat)
    case atStart => exact ⟨0, 0, .inr rfl, rfl, rfl, HR.out.symm⟩
    case round =>
      clear HR
      obtain ⟨k, n, hk, rfl, rfl, hr⟩ := hrel
      have hat := HAT.out
      have z0 := hat.cell 0
      have z1 := hat.cell 1
      simp only [List.getElem?_toArray, List.getElem?_cons_zero, List.getElem?_cons_succ] at z0 z1
      clear hat
      by_cases hlt : k + 1 < s.size
      · have h0 : k < s.size := by omega
        have hd := bl_drop s k h0
        rw [bl_drop s (k + 1) hlt] at hd
        rw [hd] at hr
        have hki : (k : Int) + 1 < (s.size : Int) := by omega
        have hki2 : (k : Int) < (s.size : Int) := by omega
        have hk0 : (0 : Int) ≤ (k : Int) := by omega
        have hk1 : (0 : Int) ≤ (k : Int) + 1 := by omega
        have HD := Lib.hid (bl_drop s (k + 1) hlt)
        clear hd
        by_cases hc : s[k] < s[k + 1]
        · have c1 : ¬ ((s[k + 1].toNat : Int) ≤ (s[k].toNat : Int)) := by have := UInt8.lt_iff_toNat_lt.1 hc; omega
          have hr2 : R = Pr.rises ((bl s).drop (k + 1)) := by
            rw [hr, HD.out, Pr.rises]; simp [hc]
          have HRR := Lib.hid hr2
          clear hr hr2 hc
          go_wp2_with fail
          go_quiet (fail)
          go_wp2_with fail
          go_roundw
          case rel => exact ⟨k + 1, _, .inl (by omega), by go_num, rfl, HRR.out⟩
          case measure => simp [intOf]; omega
        · have c1 : (s[k + 1].toNat : Int) ≤ (s[k].toNat : Int) := by
            have : ¬ s[k].toNat < s[k + 1].toNat := fun h => hc (UInt8.lt_iff_toNat_lt.2 h)
            omega
          have hr2 : R = false := by
            rw [hr, Pr.rises]; simp [hc]
          have HRR := Lib.hid hr2
          clear hr hr2 hc
          go_wp2_with fail
          go_quiet (fail)
          go_wp2_with fail
          go_ret
          exact ⟨by rw [HRR.out]; simp, below_drewN (below_drewN HB.out _) _⟩
      · have hr2 : R = true := by
          rw [hr]
          have : ((bl s).drop k).length ≤ 1 := by rw [List.length_drop, bl_length]; omega
          match (bl s).drop k, this with
          | [], _ => rfl
          | [a], _ => rfl
          | a :: b :: r, h => simp at h
        have HRR := Lib.hid hr2
        clear hr hr2
        have hge : (s.size : Int) ≤ (k : Int) + 1 := by omega
        go_wp2_with fail
        go_ret
        exact ⟨by rw [HRR.out]; simp, below_drewN HB.out _⟩
  · rw [if_neg ht]
    rw [decide_eq_false ht] at eT eT2
    have hse : (st == []) = decide (st = []) := by cases st <;> simp
    rw [hse, ← hTs]
    obtain ⟨q, hq⟩ : ∃ q, decide (st = []) = q := ⟨_, rfl⟩
    rw [hq] at eS2
    rw [hq]
    have hTsz : T.size ≤ 140737488355328 := by omega
    clear hT hS hbT hbS hTs hSs hat h1 h2 ht hse hq
    by_cases h32 : T.size ≤ 32
    · have g1 : (T.size : Int) ≤ 32 := by omega
      rw [decide_eq_true h32]
      clear h32
      cases q <;> cases m
      all_goals
        go_enter Tryz.func84, Tryz.ntmps84
        go_wp2_with fail
        go_ret
        exact ⟨rfl, HB.out⟩
    · have g1 : ¬ (T.size : Int) ≤ 32 := by omega
      rw [decide_eq_false h32]
      clear h32
      go_enter Tryz.func84, Tryz.ntmps84
      go_wp2_with fail
      go_ret
      exact ⟨rfl, HB.out⟩
set_option maxHeartbeats 2000000 in
theorem ronce7_any (l : List Rd.Name) (A : Option Addr) (cap B : Nat) (w : World) (hl : Cl w B A (namesV l)) (hs : ∀ x ∈ l, x.length ≤ 140737488355328) (hn : l.length ≤ 140737488355328) :
    Calls Tryz.prog 86 #[.slice A l.length cap] w fun e w' => e = .returned (.bool (Pr.onceB l)) ∧ ∃ m, w' = w.drewN m := by
  have HL := Lib.hid hl
  have HS := Lib.hid hs
  obtain ⟨n, hnn⟩ : ∃ n, l.length = n := ⟨_, rfl⟩
  rw [hnn] at hn ⊢
  have HN := Lib.hid hnn
  obtain ⟨R, hR⟩ : ∃ R, Pr.onceB l = R := ⟨_, rfl⟩
  have HR := Lib.hid hR
  rw [hR]
  clear hl hs hnn hR
  go_enter Tryz.func86, Tryz.ntmps86
  go_wp2_with fail
  go_loopw [3] (fun i wr => ∃ (k m : Nat), k ≤ n ∧ i = .int .i64 (k : Int) ∧ (∀ y ∈ l.take k, Pr.nameOk y = true) ∧ (l.take k).Nodup ∧ wr = w.drewN m) (fun i _ => n - (intOf i).toNat)
  case atStart => exact ⟨0, 0, by omega, rfl, by simp, by simp, rfl⟩
  case round =>
    obtain ⟨k, m, hk, rfl, hall, hnd, rfl⟩ := hrel
    have HALL := Lib.hid hall
    have HND := Lib.hid hnd
    clear hall hnd
    by_cases hlt : k < n
    · obtain ⟨x, ht⟩ := some_get (l := l) (i := k) (by rw [HN.out]; exact hlt)
      obtain ⟨b, o, hA, hbl, hcell⟩ := HL.out.ex (fun e => by
        have h1 := namesV_get ht
        rw [e] at h1; simp at h1)
      subst hA
      have c0 : w.cell? ⟨b, o + k, none⟩ = some (.string (str x)) := hcell _ _ (namesV_get ht)
      have hki : (k : Int) < (n : Int) := by omega
      have hk0 : (0 : Int) ≤ (k : Int) := by omega
      have HX := Lib.hid ht
      have HCE := Lib.hid hcell
      have HNA := Lib.hid (fun w => rname7_any x w (by have := HS.out x (List.mem_of_getElem? ht); omega))
      have HEQ := Lib.hid (fun (y : Rd.Name) => str_same y x)
      clear ht hcell
      cases hq : Pr.nameOk x with
      | false =>
        have HF := Lib.hid (show R = false by
          rw [← HR.out]; unfold Pr.onceB
          rw [List.all_eq_false.2 ⟨x, List.mem_of_getElem? HX.out, by rw [hq]; decide⟩]; rfl)
        rw [hq] at HNA
        generalize str x = X at c0 HNA HEQ
        clear hq
        go_wp2_with fail
        refine (HNA.out _).mono ?_
        rintro e w2 ⟨rfl, rfl⟩
        go_wp2_with fail
        go_ret
        exact ⟨by rw [HF.out]; rfl, _, rfl⟩
      | true =>
        have HQ := Lib.hid hq
        rw [hq] at HNA
        generalize str x = X at c0 HNA HEQ
        clear hq
        go_wp2_with fail
        refine (HNA.out _).mono ?_
        rintro e w2 ⟨rfl, rfl⟩
        clear HNA
        go_wp2_with fail
        go_loopw [4] (fun i wr => ∃ (j m : Nat), j ≤ k ∧ i = .int .i64 (j : Int) ∧ (x ∉ l.take j) ∧ wr = w.drewN m) (fun i _ => k - (intOf i).toNat)
        case atStart => exact ⟨0, m, by omega, rfl, by simp, rfl⟩
        case round =>
          obtain ⟨j, m, hj, rfl, hno, rfl⟩ := hrel
          have HNO := Lib.hid hno
          clear hno
          by_cases hjl : j < k
          · obtain ⟨y, hy⟩ := some_get (l := l) (i := j) (by rw [HN.out]; omega)
            have c1 : w.cell? ⟨b, o + j, none⟩ = some (.string (str y)) := HCE.out _ _ (namesV_get hy)
            have heq := HEQ.out y
            have HY := Lib.hid hy
            have hji : (j : Int) < (k : Int) := by omega
            have hji2 : (j : Int) < (n : Int) := by omega
            have hj0 : (0 : Int) ≤ (j : Int) := by omega
            clear hy
            cases hq : (y == x) with
            | false =>
              rw [hq] at heq
              have HQ2 := Lib.hid hq
              generalize str y = Y at c1 heq
              clear hq
              go_wp2_with fail
              go_quiet (fail)
              go_wp2_with fail
              go_roundw
              case rel =>
                refine ⟨j + 1, _, by omega, by go_num, ?_, rfl⟩
                rw [List.take_add_one, HY.out]
                intro hm
                rcases List.mem_append.1 hm with h1 | h1
                · exact HNO.out h1
                · simp at h1
                  have := HQ2.out
                  rw [beq_eq_false_iff_ne] at this
                  exact this h1.symm
              case measure => simp [intOf]; omega
            | true =>
              rw [hq] at heq
              have HF := Lib.hid (show R = false by
                rw [← HR.out]; unfold Pr.onceB
                have he := beq_iff_eq.1 hq
                rw [decide_eq_false, Bool.and_false]
                intro hnd
                obtain ⟨h1, h2⟩ := List.getElem?_eq_some_iff.1 HY.out
                obtain ⟨h3, h4⟩ := List.getElem?_eq_some_iff.1 HX.out
                exact List.pairwise_iff_getElem.1 hnd j k h1 h3 hjl (by rw [h2, h4, he]))
              generalize str y = Y at c1 heq
              clear hq
              go_wp2_with fail
              go_quiet (fail)
              go_wp2_with fail
              go_ret
              exact ⟨by rw [HF.out]; rfl, _, World.drewN_drewN _ _ _⟩
          · obtain rfl : k = j := by omega
            go_wp2_with fail
            go_roundw
            case rel =>
              refine ⟨k + 1, _, by omega, by go_num, ?_, ?_, rfl⟩
              · exact all_take HX.out HALL.out HQ.out
              · rw [List.take_add_one, HX.out]
                rw [List.nodup_append]
                refine ⟨HND.out, by simp, fun a ha c hc e => ?_⟩
                simp at hc
                subst hc; subst e
                exact HNO.out ha
            case measure => simp [intOf]; omega
    · obtain rfl : n = k := by omega
      have hl : l.take n = l := by rw [← HN.out, List.take_length]
      have HF := Lib.hid (show R = true by
        rw [← HR.out]; unfold Pr.onceB
        have h1 := HALL.out
        have h2 := HND.out
        rw [hl] at h1 h2
        rw [decide_eq_true h2, Bool.and_true, List.all_eq_true]
        exact h1)
      go_wp2_with fail
      go_ret
      exact ⟨by rw [HF.out]; rfl, _, rfl⟩
end Go.Proofs.YtdhhkancbgealaaGreat
