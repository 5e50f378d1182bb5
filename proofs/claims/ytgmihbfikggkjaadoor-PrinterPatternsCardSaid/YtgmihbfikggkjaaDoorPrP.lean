/-
  The walks of tronagelaw07's awake and PrinterPatterns.
-/
import Derived.Test.YtgmihbfikggkjaaDoorPrAA
import Derived.Test.YtgmihbfikggkjaaDoorPrU
namespace Go.Proofs.YtgmihbfikggkjaaDoor
open Go.RowKit
open Lx
set_option linter.unusedVariables false
set_option linter.unusedSimpArgs false
set_option maxRecDepth 100000

def awG : Rd.G := ⟨[], [], [], [69], [⟨[69], [[69], [78]], [], [49]⟩]⟩
theorem awG_print : printV awG = .tuple #[.string (str [37, 115, 116, 97, 114, 116, 32, 69, 10, 37, 37, 10, 69, 32, 58, 32, 69, 32, 78, 32, 123, 49, 125, 32, 59, 10]), .int .i64 0] := by
  unfold printV
  rw [if_pos (show Pr.rightB awG = true by decide +kernel), if_neg (show ¬ 4000 < (Pr.text awG).length by decide +kernel)]
  have h : Pr.text awG = [37, 115, 116, 97, 114, 116, 32, 69, 10, 37, 37, 10, 69, 32, 58, 32, 69, 32, 78, 32, 123, 49, 125, 32, 59, 10] := by decide +kernel
  rw [h]
theorem awP : Pr.pattern ⟨[], [45, 48], true⟩ = [91, 92, 45, 48, 93, 43] := by decide +kernel
theorem awG_sz : Sz awG := by
  refine ⟨?_, ?_, ?_, ?_, ?_, ?_, ?_, ?_, ?_⟩ <;> simp [awG]

set_option maxHeartbeats 1000000 in
theorem awake7_any (w : World) (hT : Tab w) (h0 : 0 < w.heap.size) :
    Calls Tryd.prog 10 #[] w fun e w' => e = .returned (.bool true) ∧ Below w.heap.size w w' := by
  have hb : Below w.heap.size w ((w.alloc (.cells #[.string ⟨#[69]⟩, .string ⟨#[78]⟩] 9)).alloc (.cells #[.string ⟨#[69]⟩, .slice (some ⟨w.heap.size, 0, none⟩) 2 2, .string ⟨#[]⟩, .string ⟨#[49]⟩] 30)) := ((Below.refl _ _).alloc (Nat.le_refl _) _).alloc (by simp) _
  have ha1 := (At.new w 9 #[.string ⟨#[69]⟩, .string ⟨#[78]⟩]).alloc (.cells #[.string ⟨#[69]⟩, .slice (some ⟨w.heap.size, 0, none⟩) 2 2, .string ⟨#[]⟩, .string ⟨#[49]⟩] 30)
  have ha2 := At.new (w.alloc (.cells #[.string ⟨#[69]⟩, .string ⟨#[78]⟩] 9)) 30 #[.string ⟨#[69]⟩, .slice (some ⟨w.heap.size, 0, none⟩) 2 2, .string ⟨#[]⟩, .string ⟨#[49]⟩]
  rw [show (w.alloc (.cells #[.string ⟨#[69]⟩, .string ⟨#[78]⟩] 9)).heap.size = w.heap.size + 1 by simp] at ha2
  obtain ⟨W, hW⟩ : ∃ W, (w.alloc (.cells #[.string ⟨#[69]⟩, .string ⟨#[78]⟩] 9)).alloc (.cells #[.string ⟨#[69]⟩, .slice (some ⟨w.heap.size, 0, none⟩) 2 2, .string ⟨#[]⟩, .string ⟨#[49]⟩] 30) = W := ⟨_, rfl⟩
  rw [hW] at hb ha1 ha2
  have hgc : GramC W W.heap.size (.agg #[.slice none 0 0, .slice none 0 0, .slice none 0 0, .string ⟨#[69]⟩, .slice (some ⟨w.heap.size + 1, 0, none⟩) 1 1]) awG := by
    refine ⟨none, 0, none, 0, none, 0, some ⟨w.heap.size + 1, 0, none⟩, 1, [], [(⟨[69], [[69], [78]], [], [49]⟩, .slice (some ⟨w.heap.size, 0, none⟩) 2 2)], rfl, Cl.nil _ _ _, Cl.nil _ _ _, Cl.nil _ _ _, rfl, by simp, ⟨fun _ => ⟨_, _, rfl, ha2.lt, fun j u hu => ?_⟩⟩, rfl, fun p hp => ?_⟩
    · rw [Nat.zero_add, ha2.cell]
      rw [← hu]; simp [rulesV, ruleCells]; rfl
    · simp only [List.mem_cons, List.not_mem_nil, or_false] at hp
      subst hp
      refine ⟨_, _, rfl, ⟨fun _ => ⟨_, _, rfl, ha1.lt, fun j u hu => ?_⟩⟩⟩
      rw [Nat.zero_add, ha1.cell]
      rw [← hu]; simp [namesV]; rfl
  have HP := Lib.hid (print_any _ awG W.heap.size W hgc (Nat.le_refl _) awG_sz (hT.below hb h0) (by have := hb.size; omega) (fun _ => by decide +kernel))
  rw [awG_print] at HP
  have HPA := Lib.hid (fun w => pattern7_any ⟨[], [45, 48], true⟩ w (by decide) (by decide))
  rw [awP] at HPA
  unfold patV at HPA
  have HB := Lib.hid hb
  have HW := Lib.hid hW
  clear hb ha1 ha2 hW hgc hT h0
  have f1 : ((str [37, 115, 116, 97, 114, 116, 32, 69, 10, 37, 37, 10, 69, 32, 58, 32, 69, 32, 78, 32, 123, 49, 125, 32, 59, 10]).toList == (⟨#[37, 115, 116, 97, 114, 116, 32, 69, 10, 37, 37, 10, 69, 32, 58, 32, 69, 32, 78, 32, 123, 49, 125, 32, 59, 10]⟩ : ByteArray).toList) = true := by rw [toList_eq, toList_eq, bl_str]; rfl
  have f2 : ((str [91, 92, 45, 48, 93, 43]).toList == (⟨#[91, 92, 45, 48, 93, 43]⟩ : ByteArray).toList) = true := by rw [toList_eq, toList_eq, bl_str]; rfl
  have e1 : (⟨#[37, 115, 116, 97, 114, 116, 32, 69, 10, 37, 37, 10, 69, 32, 58, 32, 69, 32, 78, 32, 123, 49, 125, 32, 59, 10]⟩ : ByteArray).toList = [37, 115, 116, 97, 114, 116, 32, 69, 10, 37, 37, 10, 69, 32, 58, 32, 69, 32, 78, 32, 123, 49, 125, 32, 59, 10] := by rw [toList_eq]; rfl
  have e2 : (⟨#[91, 92, 45, 48, 93, 43]⟩ : ByteArray).toList = [91, 92, 45, 48, 93, 43] := by rw [toList_eq]; rfl
  rw [e1] at f1
  rw [e2] at f2
  clear e1 e2
  go_enter Tryd.func10, Tryd.ntmps10
  go_wp2_with fail
  rw [HW.out]
  refine HP.out.mono ?_
  rintro e w1 ⟨rfl, hb1⟩
  go_wp2_with fail
  refine (HPA.out _).mono ?_
  rintro e w2 ⟨rfl, hb2⟩
  go_wp2_with fail
  go_ret
  exact ⟨rfl, HB.out.trans ((hb1.trans (hb2.mono hb1.size)).mono HB.out.size)⟩

/-- The marks of a pattern's text. -/
theorem lex_pattern {p : Rd.Pat} (h : Pr.patOk p = true) : ∃ MS : List Mk, (lex (Pr.pattern p)).marks (Pr.pattern p) = MS ∧ MS.map Rd.er = Pr.patE p ++ [Pr.em 0 []] ∧ (lex (Pr.pattern p)).diag (Pr.pattern p) = (0, 0, 0) := by
  have h1 := Pr.pe_pattern_then h Rd.pe_nil
  rw [List.append_nil, List.append_nil] at h1
  obtain ⟨ms, h2, h3⟩ := Pr.lex_pe h1 (by have := Pr.pattern_len h; omega)
  refine ⟨ms.map (mkOf (Pr.pattern p)), by rw [h2]; rfl, by rw [Rd.er_mkOf]; exact h3, by rw [h2]; rfl⟩
theorem er_two {MS : List Mk} {a b : Mk} (h : MS.map Rd.er = [a, b]) : ∃ m0 m1, MS = [m0, m1] ∧ Rd.er m0 = a := by
  cases MS with
  | nil => simp at h
  | cons x r =>
    cases r with
    | nil => simp at h
    | cons y r =>
      cases r with
      | nil => simp at h; exact ⟨x, y, rfl, h.1⟩
      | cons z r => simp at h
theorem er_three {MS : List Mk} {a b c : Mk} (h : MS.map Rd.er = [a, b, c]) : ∃ m0 m1 m2, MS = [m0, m1, m2] ∧ Rd.er m0 = a ∧ Rd.er m1 = b := by
  cases MS with
  | nil => simp at h
  | cons x r =>
    simp only [List.map_cons, List.cons.injEq] at h
    obtain ⟨y, z, rfl, h2⟩ := er_two h.2
    exact ⟨x, y, z, rfl, h.1, h2⟩
theorem er_mk {m : Mk} {k : Nat} {t : Rd.Name} (h : Rd.er m = Pr.em k t) : m.kind = k ∧ m.text = t := by
  unfold Rd.er Pr.em at h
  injection h with h1 h2
  exact ⟨h1, h2⟩

set_option maxHeartbeats 4000000 in
theorem patterns_law (t : ByteArray) (ht : t.size ≤ 9223372036854775807) (s : ByteArray) (hs : s.size ≤ 9223372036854775807) (many : Bool) (W : World) (hT : Tab W) (h0 : 0 < W.heap.size) :
    Calls Tryd.prog 5 #[.string t, .string s, .bool many] W fun e w' => e = .returned (.bool true) ∧ Below W.heap.size W w' := by
  have HT := Lib.hid hT
  clear hT
  by_cases h1 : t.size ≤ 40
  rotate_left
  · have h1' : ¬ (t.size : Int) ≤ 40 := by omega
    have h1'' : (40 : Int) < (t.size : Int) := by omega
    go_enter Tryd.func5, Tryd.ntmps5
    go_wp2_with fail
    refine (awake7_any _ HT.out h0).mono ?_
    rintro e w1 ⟨rfl, hb1⟩
    go_wp2_with fail
    go_ret
    exact ⟨rfl, hb1⟩
  by_cases h2 : s.size ≤ 40
  rotate_left
  · have h1' : (t.size : Int) ≤ 40 := by omega
    have h2'' : (40 : Int) < (s.size : Int) := by omega
    go_enter Tryd.func5, Tryd.ntmps5
    go_wp2_with fail
    refine (awake7_any _ HT.out h0).mono ?_
    rintro e w1 ⟨rfl, hb1⟩
    go_wp2_with fail
    go_ret
    exact ⟨rfl, hb1⟩
  have h1' : (t.size : Int) ≤ 40 := by omega
  have h2' : (s.size : Int) ≤ 40 := by omega
  by_cases h3 : bl t ≠ [] ∧ t.size ≤ 32
  · obtain ⟨h3, h4⟩ := h3
    have h4' : (t.size : Int) ≤ 32 := by omega
    have y1 : t.toList.isEmpty = false := by
      rw [toList_eq]
      cases hbs : bl t with
      | nil => exact absurd hbs h3
      | cons a r => rfl
    have hok : Pr.patOk ⟨bl t, [], false⟩ = true := by
      unfold Pr.patOk; rw [if_neg h3]; simp only [Bool.and_eq_true, decide_eq_true_eq]; exact ⟨by rw [bl_length]; exact h4, by decide, by decide⟩
    obtain ⟨MS, hm1, hm2, hm3⟩ := lex_pattern hok
    have HPATT := Lib.hid (show ∀ w, Calls Tryd.prog 14 #[.agg #[.string t, .string ⟨#[]⟩, .bool false]] w fun e w' => e = .returned (.string (str (Pr.pattern ⟨bl t, [], false⟩))) ∧ Below w.heap.size w w' from fun w => pattern7_any ⟨bl t, [], false⟩ w (by rw [bl_length]; omega) (by simp))
    have hpl := Pr.pattern_len hok
    obtain ⟨Q, hQ⟩ : ∃ Q, str (Pr.pattern ⟨bl t, [], false⟩) = Q := ⟨_, rfl⟩
    have hQs : Q.size ≤ 9223372036854775807 := by rw [← bl_length, ← hQ, bl_str]; omega
    have hbQ : Pr.pattern ⟨bl t, [], false⟩ = bl Q := by rw [← hQ, bl_str]
    rw [hQ] at HPATT
    rw [hbQ] at hm1 hm3
    obtain ⟨m0, m1, rfl, k0⟩ : ∃ m0 m1, MS = [m0, m1] ∧ (m0.kind = 3 ∧ m0.text = bl t) := by
      have h := hm2
      rw [show Pr.patE ⟨bl t, [], false⟩ = [Pr.em 3 (bl t)] by unfold Pr.patE; rw [if_neg h3]] at h
      obtain ⟨a, b, rfl, e1⟩ := er_two h
      exact ⟨a, b, rfl, er_mk e1⟩
    have HM1 := Lib.hid hm1
    have HM3 := Lib.hid hm3
    clear hm1 hm2 hm3 hpl hQ hbQ hok h3
    go_enter Tryd.func5, Tryd.ntmps5
    go_wp2_with fail
    refine (awake7_any _ HT.out h0).mono ?_
    rintro e w1 ⟨rfl, hb1⟩
    have HB1 := Lib.hid hb1
    have HT1 := Lib.hid (HT.out.below hb1 h0)
    have hs1 := hb1.size
    clear hb1
    go_wp2_with fail
    refine (HPATT.out _).mono ?_
    rintro e w2 ⟨rfl, hb2⟩
    have HB2 := Lib.hid (HB1.out.trans (hb2.mono hs1))
    have HT2 := Lib.hid (HT1.out.below hb2 (by omega))
    have hs2 := HB2.out.size
    clear hb2
    go_wp2_with fail
    refine (lex_is Q _ (0, 0, 0) w2 hQs HT2.out (by omega) HM1.out HM3.out).mono ?_
    rintro e w3 ⟨⟨A3, cap3, rfl, hmm⟩, hb3⟩
    have HB3 := Lib.hid (HB2.out.trans (hb3.mono hs2))
    have hs3 := HB3.out.size
    have HT3 := Lib.hid ((HT2.out.below hb3 (by omega)).below ((Below.refl _ _).alloc (Nat.le_refl _) (.cells #[.int .i64 0, .int .i64 0, .int .i64 0] 40)) (by omega))
    have HMM := Lib.hid (hmm.below ((Below.refl _ _).alloc (Nat.le_refl _) (.cells #[.int .i64 0, .int .i64 0, .int .i64 0] 40)))
    have HB4 := Lib.hid (HB3.out.alloc hs3 (.cells #[.int .i64 0, .int .i64 0, .int .i64 0] 40))
    clear hmm hb3
    rw [show [m0, m1].length = 2 from rfl, show diagV (0, 0, 0) = .agg #[.int .i64 0, .int .i64 0, .int .i64 0] from rfl]
    obtain ⟨b1, hA, q4, c11, c12, _, _⟩ := HMM.out.cell (i := 0) (by simp)
    subst hA
    have d11 : (w3.alloc (.cells #[.int .i64 0, .int .i64 0, .int .i64 0] 40)).cell? ⟨b1, 0, none⟩ = some (.int .i64 3) := by have h : _ = some (Value.int .i64 (m0.kind : Int)) := c11; rw [k0.1] at h; exact h
    have d12 : (w3.alloc (.cells #[.int .i64 0, .int .i64 0, .int .i64 0] 40)).cell? ⟨b1, 1, none⟩ = some (.string t) := by
      have h : _ = some (Value.string (str m0.text)) := c12
      rw [k0.2, str_bl] at h
      exact h
    have t1 : (t.toList == t.toList) = true := by simp
    have t2 : (t.toList != t.toList) = false := by simp
    clear c11 c12
    go_wp2_with fail
    clear y1 t1 t2 d11 d12 h4' h4
    -- (w3.alloc (.cells #[.int .i64 0, .int .i64 0, .int .i64 0] 40)): the world, HT3.out: its Tab, HB4.out: Below W.heap.size W of it
    obtain ⟨wz, hwz⟩ : ∃ wz, wz = (w3.alloc (.cells #[.int .i64 0, .int .i64 0, .int .i64 0] 40)) := ⟨_, rfl⟩
    have HTZ := Lib.hid (show Tab wz by rw [hwz]; exact HT3.out)
    have HBZ := Lib.hid (show Below W.heap.size W wz by rw [hwz]; exact HB4.out)
    have hsz := HBZ.out.size
    rw [← hwz]
    clear hwz
    go_loopw [10] (fun i wr => ∃ (k m : Nat), (k + 1 ≤ s.size ∨ k = 0) ∧ i = .int .i64 ((k : Int) + 1) ∧ wr = wz.drewN m ∧ Pr.rises (bl s) = Pr.rises ((bl s).drop k)) (fun i _ => s.size + 1 - (intOf i).toNat)
    case atStart => exact ⟨0, 0, .inr rfl, rfl, rfl, rfl⟩
    case round =>
      obtain ⟨k, m, hk, rfl, rfl, hr⟩ := hrel
      by_cases hlt : k + 1 < s.size
      · have h0' : k < s.size := by omega
        have hd := bl_drop s k h0'
        rw [bl_drop s (k + 1) hlt] at hd
        rw [hd] at hr
        have hki : (k : Int) + 1 < (s.size : Int) := by omega
        have hki2 : (k : Int) < (s.size : Int) := by omega
        have hk0 : (0 : Int) ≤ (k : Int) := by omega
        have hk1 : (0 : Int) ≤ (k : Int) + 1 := by omega
        have HD := Lib.hid (bl_drop s (k + 1) hlt)
        clear hd
        by_cases hc : s[k] < s[k + 1]
        · have c1 : ¬ ((s[k + 1].toNat : Int) ≤ (s[k].toNat : Int)) := by have := UInt8.lt_iff_toNat_lt.1 hc; omega
          have hr2 : Pr.rises (bl s) = Pr.rises ((bl s).drop (k + 1)) := by
            rw [hr, HD.out, Pr.rises]; simp [hc]
          have HR := Lib.hid hr2
          clear hr hr2 hc
          go_wp2_with fail
          go_quiet (fail)
          go_wp2_with fail
          go_roundw
          case rel => exact ⟨k + 1, _, Or.inl (by omega), by go_num, rfl, HR.out⟩
          case measure => simp [intOf]; omega
        · have c1 : (s[k + 1].toNat : Int) ≤ (s[k].toNat : Int) := by
            have : ¬ s[k].toNat < s[k + 1].toNat := fun h => hc (UInt8.lt_iff_toNat_lt.2 h)
            omega
          clear hr hc
          go_wp2_with fail
          go_quiet (fail)
          go_wp2_with fail
          go_ret
          exact ⟨rfl, below_drewN (below_drewN HBZ.out _) _⟩
      · have hr2 : Pr.rises (bl s) = true := by
          rw [hr]
          have : ((bl s).drop k).length ≤ 1 := by rw [List.length_drop, bl_length]; omega
          match (bl s).drop k, this with
          | [], _ => rfl
          | [a], _ => rfl
          | a :: b :: r, h => simp at h
        have hge : (s.size : Int) ≤ (k : Int) + 1 := by omega
        by_cases hs0 : bl s = []
        · have hz : s.toList.isEmpty = true := by rw [toList_eq, hs0]; rfl
          have hz2 : (s.toList == (⟨#[]⟩ : ByteArray).toList) = true := by
            rw [show (⟨#[]⟩ : ByteArray) = str [] from rfl, str_beq, hs0]; rfl
          clear hr hr2 hs0
          go_wp2_with fail
          go_ret
          exact ⟨rfl, below_drewN HBZ.out _⟩
        · have hz : s.toList.isEmpty = false := by
            rw [toList_eq]
            cases hbs : bl s with
            | nil => exact absurd hbs hs0
            | cons a r => rfl
          have hz2 : (s.toList == (⟨#[]⟩ : ByteArray).toList) = false := by
            rw [show (⟨#[]⟩ : ByteArray) = str [] from rfl, str_beq]
            simpa using hs0
          have hok : Pr.patOk ⟨[], bl s, many⟩ = true := by
            unfold Pr.patOk; rw [if_pos rfl]; simp only [Bool.and_eq_true, bne_iff_ne]; exact ⟨hs0, hr2⟩
          obtain ⟨MS, hm1, hm2, hm3⟩ := lex_pattern hok
          have HPAT := Lib.hid (show ∀ w, Calls Tryd.prog 14 #[.agg #[.string ⟨#[]⟩, .string s, .bool many]] w fun e w' => e = .returned (.string (str (Pr.pattern ⟨[], bl s, many⟩))) ∧ Below w.heap.size w w' from fun w => pattern7_any ⟨[], bl s, many⟩ w (by simp) (by rw [bl_length]; omega))
          have hpl := Pr.pattern_len hok
          obtain ⟨Q, hQ⟩ : ∃ Q, str (Pr.pattern ⟨[], bl s, many⟩) = Q := ⟨_, rfl⟩
          have hQs : Q.size ≤ 9223372036854775807 := by rw [← bl_length, ← hQ, bl_str]; omega
          have hbQ : Pr.pattern ⟨[], bl s, many⟩ = bl Q := by rw [← hQ, bl_str]
          rw [hQ] at HPAT
          rw [hbQ] at hm1 hm3
          have HM1 := Lib.hid hm1
          have HM3 := Lib.hid hm3
          have HM2 := Lib.hid hm2
          clear hr hr2 hs0 hok hm1 hm2 hm3 hpl hQ hbQ
          go_wp2_with fail
          refine (HPAT.out _).mono ?_
          rintro e w5 ⟨rfl, hb5⟩
          have HB5 := Lib.hid ((below_drewN HBZ.out m).trans (hb5.mono (by simpa using hsz)))
          have HT5 := Lib.hid ((HTZ.out.drewN m).below hb5 (by simp; omega))
          have hs5 := HB5.out.size
          clear hb5
          go_wp2_with fail
          refine (lex_is Q MS (0, 0, 0) w5 hQs HT5.out (by omega) HM1.out HM3.out).mono ?_
          rintro e w6 ⟨⟨A6, cap6, rfl, hmm⟩, hb6⟩
          have HB6 := Lib.hid (HB5.out.trans (hb6.mono hs5))
          have hs6 := HB6.out.size
          have HMM := Lib.hid (hmm.below ((Below.refl _ _).alloc (Nat.le_refl _) (.cells #[.int .i64 0, .int .i64 0, .int .i64 0] 40)))
          have HB7 := Lib.hid (HB6.out.alloc hs6 (.cells #[.int .i64 0, .int .i64 0, .int .i64 0] 40))
          clear hmm hb6
          cases many with
          | true =>
            obtain ⟨m0, m1, m2, rfl, k0, k1⟩ : ∃ m0 m1 m2, MS = [m0, m1, m2] ∧ (m0.kind = 4 ∧ m0.text = bl s) ∧ m1.kind = 5 := by
              have h := HM2.out
              rw [show Pr.patE ⟨[], bl s, true⟩ ++ [Pr.em 0 []] = [Pr.em 4 (bl s), Pr.em 5 [], Pr.em 0 []] from rfl] at h
              obtain ⟨a, b, c, rfl, e1, e2⟩ := er_three h
              exact ⟨a, b, c, rfl, er_mk e1, (er_mk e2).1⟩
            simp only [List.length_cons, List.length_nil, diagV]
            obtain ⟨b1, hA, q4, c11, c12, _, _⟩ := HMM.out.cell (i := 0) (by simp)
            subst hA
            obtain ⟨b1', hA, q4', c21, _, _, _⟩ := HMM.out.cell (i := 1) (by simp)
            obtain rfl : b1 = b1' := by injection hA with h; injection h
            have d11 : (w6.alloc (.cells #[.int .i64 0, .int .i64 0, .int .i64 0] 40)).cell? ⟨b1, 0, none⟩ = some (.int .i64 4) := by have h : _ = some (Value.int .i64 (m0.kind : Int)) := c11; rw [k0.1] at h; exact h
            have d12 : (w6.alloc (.cells #[.int .i64 0, .int .i64 0, .int .i64 0] 40)).cell? ⟨b1, 1, none⟩ = some (.string s) := by
              have h : _ = some (Value.string (str m0.text)) := c12
              rw [k0.2, str_bl] at h
              exact h
            have d21 : (w6.alloc (.cells #[.int .i64 0, .int .i64 0, .int .i64 0] 40)).cell? ⟨b1, 4, none⟩ = some (.int .i64 5) := by have h : _ = some (Value.int .i64 (m1.kind : Int)) := c21; rw [k1] at h; exact h
            have t1 : (s.toList == s.toList) = true := by simp
            have t2 : (s.toList != s.toList) = false := by simp
            clear c11 c12 c21
            go_wp2_with fail
            go_ret
            exact ⟨rfl, HB7.out⟩
          | false =>
            obtain ⟨m0, m1, rfl, k0⟩ : ∃ m0 m1, MS = [m0, m1] ∧ (m0.kind = 4 ∧ m0.text = bl s) := by
              have h := HM2.out
              rw [show Pr.patE ⟨[], bl s, false⟩ ++ [Pr.em 0 []] = [Pr.em 4 (bl s), Pr.em 0 []] from rfl] at h
              obtain ⟨a, b, rfl, e1⟩ := er_two h
              exact ⟨a, b, rfl, er_mk e1⟩
            simp only [List.length_cons, List.length_nil, diagV]
            obtain ⟨b1, hA, q4, c11, c12, _, _⟩ := HMM.out.cell (i := 0) (by simp)
            subst hA
            have d11 : (w6.alloc (.cells #[.int .i64 0, .int .i64 0, .int .i64 0] 40)).cell? ⟨b1, 0, none⟩ = some (.int .i64 4) := by have h : _ = some (Value.int .i64 (m0.kind : Int)) := c11; rw [k0.1] at h; exact h
            have d12 : (w6.alloc (.cells #[.int .i64 0, .int .i64 0, .int .i64 0] 40)).cell? ⟨b1, 1, none⟩ = some (.string s) := by
              have h : _ = some (Value.string (str m0.text)) := c12
              rw [k0.2, str_bl] at h
              exact h
            have t1 : (s.toList == s.toList) = true := by simp
            have t2 : (s.toList != s.toList) = false := by simp
            clear c11 c12
            go_wp2_with fail
            go_ret
            exact ⟨rfl, HB7.out⟩
  · have h3x : t.toList.isEmpty = true ∨ (t.toList.isEmpty = false ∧ ¬ (t.size : Int) ≤ 32) := by
      by_cases hb : bl t = []
      · exact .inl (by rw [toList_eq, hb]; rfl)
      · refine .inr ⟨?_, fun h => h3 ⟨hb, by omega⟩⟩
        rw [toList_eq]
        cases hbs : bl t with
        | nil => exact absurd hbs hb
        | cons a r => rfl
    clear h3
    rcases h3x with h3 | ⟨h3, h4⟩
    · go_enter Tryd.func5, Tryd.ntmps5
      go_wp2_with fail
      refine (awake7_any _ HT.out h0).mono ?_
      rintro e w1 ⟨rfl, hb1⟩
      have HB1 := Lib.hid hb1
      have HT1 := Lib.hid (HT.out.below hb1 h0)
      have hs1 := hb1.size
      clear hb1
      go_wp2_with fail
      -- w1: the world, HT1.out: its Tab, HB1.out: Below W.heap.size W of it
      obtain ⟨wz, hwz⟩ : ∃ wz, wz = w1 := ⟨_, rfl⟩
      have HTZ := Lib.hid (show Tab wz by rw [hwz]; exact HT1.out)
      have HBZ := Lib.hid (show Below W.heap.size W wz by rw [hwz]; exact HB1.out)
      have hsz := HBZ.out.size
      rw [← hwz]
      clear hwz
      go_loopw [10] (fun i wr => ∃ (k m : Nat), (k + 1 ≤ s.size ∨ k = 0) ∧ i = .int .i64 ((k : Int) + 1) ∧ wr = wz.drewN m ∧ Pr.rises (bl s) = Pr.rises ((bl s).drop k)) (fun i _ => s.size + 1 - (intOf i).toNat)
      case atStart => exact ⟨0, 0, .inr rfl, rfl, rfl, rfl⟩
      case round =>
        obtain ⟨k, m, hk, rfl, rfl, hr⟩ := hrel
        by_cases hlt : k + 1 < s.size
        · have h0' : k < s.size := by omega
          have hd := bl_drop s k h0'
          rw [bl_drop s (k + 1) hlt] at hd
          rw [hd] at hr
          have hki : (k : Int) + 1 < (s.size : Int) := by omega
          have hki2 : (k : Int) < (s.size : Int) := by omega
          have hk0 : (0 : Int) ≤ (k : Int) := by omega
          have hk1 : (0 : Int) ≤ (k : Int) + 1 := by omega
          have HD := Lib.hid (bl_drop s (k + 1) hlt)
          clear hd
          by_cases hc : s[k] < s[k + 1]
          · have c1 : ¬ ((s[k + 1].toNat : Int) ≤ (s[k].toNat : Int)) := by have := UInt8.lt_iff_toNat_lt.1 hc; omega
            have hr2 : Pr.rises (bl s) = Pr.rises ((bl s).drop (k + 1)) := by
              rw [hr, HD.out, Pr.rises]; simp [hc]
            have HR := Lib.hid hr2
            clear hr hr2 hc
            go_wp2_with fail
            go_quiet (fail)
            go_wp2_with fail
            go_roundw
            case rel => exact ⟨k + 1, _, Or.inl (by omega), by go_num, rfl, HR.out⟩
            case measure => simp [intOf]; omega
          · have c1 : (s[k + 1].toNat : Int) ≤ (s[k].toNat : Int) := by
              have : ¬ s[k].toNat < s[k + 1].toNat := fun h => hc (UInt8.lt_iff_toNat_lt.2 h)
              omega
            clear hr hc
            go_wp2_with fail
            go_quiet (fail)
            go_wp2_with fail
            go_ret
            exact ⟨rfl, below_drewN (below_drewN HBZ.out _) _⟩
        · have hr2 : Pr.rises (bl s) = true := by
            rw [hr]
            have : ((bl s).drop k).length ≤ 1 := by rw [List.length_drop, bl_length]; omega
            match (bl s).drop k, this with
            | [], _ => rfl
            | [a], _ => rfl
            | a :: b :: r, h => simp at h
          have hge : (s.size : Int) ≤ (k : Int) + 1 := by omega
          by_cases hs0 : bl s = []
          · have hz : s.toList.isEmpty = true := by rw [toList_eq, hs0]; rfl
            have hz2 : (s.toList == (⟨#[]⟩ : ByteArray).toList) = true := by
              rw [show (⟨#[]⟩ : ByteArray) = str [] from rfl, str_beq, hs0]; rfl
            clear hr hr2 hs0
            go_wp2_with fail
            go_ret
            exact ⟨rfl, below_drewN HBZ.out _⟩
          · have hz : s.toList.isEmpty = false := by
              rw [toList_eq]
              cases hbs : bl s with
              | nil => exact absurd hbs hs0
              | cons a r => rfl
            have hz2 : (s.toList == (⟨#[]⟩ : ByteArray).toList) = false := by
              rw [show (⟨#[]⟩ : ByteArray) = str [] from rfl, str_beq]
              simpa using hs0
            have hok : Pr.patOk ⟨[], bl s, many⟩ = true := by
              unfold Pr.patOk; rw [if_pos rfl]; simp only [Bool.and_eq_true, bne_iff_ne]; exact ⟨hs0, hr2⟩
            obtain ⟨MS, hm1, hm2, hm3⟩ := lex_pattern hok
            have HPAT := Lib.hid (show ∀ w, Calls Tryd.prog 14 #[.agg #[.string ⟨#[]⟩, .string s, .bool many]] w fun e w' => e = .returned (.string (str (Pr.pattern ⟨[], bl s, many⟩))) ∧ Below w.heap.size w w' from fun w => pattern7_any ⟨[], bl s, many⟩ w (by simp) (by rw [bl_length]; omega))
            have hpl := Pr.pattern_len hok
            obtain ⟨Q, hQ⟩ : ∃ Q, str (Pr.pattern ⟨[], bl s, many⟩) = Q := ⟨_, rfl⟩
            have hQs : Q.size ≤ 9223372036854775807 := by rw [← bl_length, ← hQ, bl_str]; omega
            have hbQ : Pr.pattern ⟨[], bl s, many⟩ = bl Q := by rw [← hQ, bl_str]
            rw [hQ] at HPAT
            rw [hbQ] at hm1 hm3
            have HM1 := Lib.hid hm1
            have HM3 := Lib.hid hm3
            have HM2 := Lib.hid hm2
            clear hr hr2 hs0 hok hm1 hm2 hm3 hpl hQ hbQ
            go_wp2_with fail
            refine (HPAT.out _).mono ?_
            rintro e w5 ⟨rfl, hb5⟩
            have HB5 := Lib.hid ((below_drewN HBZ.out m).trans (hb5.mono (by simpa using hsz)))
            have HT5 := Lib.hid ((HTZ.out.drewN m).below hb5 (by simp; omega))
            have hs5 := HB5.out.size
            clear hb5
            go_wp2_with fail
            refine (lex_is Q MS (0, 0, 0) w5 hQs HT5.out (by omega) HM1.out HM3.out).mono ?_
            rintro e w6 ⟨⟨A6, cap6, rfl, hmm⟩, hb6⟩
            have HB6 := Lib.hid (HB5.out.trans (hb6.mono hs5))
            have hs6 := HB6.out.size
            have HMM := Lib.hid (hmm.below ((Below.refl _ _).alloc (Nat.le_refl _) (.cells #[.int .i64 0, .int .i64 0, .int .i64 0] 40)))
            have HB7 := Lib.hid (HB6.out.alloc hs6 (.cells #[.int .i64 0, .int .i64 0, .int .i64 0] 40))
            clear hmm hb6
            cases many with
            | true =>
              obtain ⟨m0, m1, m2, rfl, k0, k1⟩ : ∃ m0 m1 m2, MS = [m0, m1, m2] ∧ (m0.kind = 4 ∧ m0.text = bl s) ∧ m1.kind = 5 := by
                have h := HM2.out
                rw [show Pr.patE ⟨[], bl s, true⟩ ++ [Pr.em 0 []] = [Pr.em 4 (bl s), Pr.em 5 [], Pr.em 0 []] from rfl] at h
                obtain ⟨a, b, c, rfl, e1, e2⟩ := er_three h
                exact ⟨a, b, c, rfl, er_mk e1, (er_mk e2).1⟩
              simp only [List.length_cons, List.length_nil, diagV]
              obtain ⟨b1, hA, q4, c11, c12, _, _⟩ := HMM.out.cell (i := 0) (by simp)
              subst hA
              obtain ⟨b1', hA, q4', c21, _, _, _⟩ := HMM.out.cell (i := 1) (by simp)
              obtain rfl : b1 = b1' := by injection hA with h; injection h
              have d11 : (w6.alloc (.cells #[.int .i64 0, .int .i64 0, .int .i64 0] 40)).cell? ⟨b1, 0, none⟩ = some (.int .i64 4) := by have h : _ = some (Value.int .i64 (m0.kind : Int)) := c11; rw [k0.1] at h; exact h
              have d12 : (w6.alloc (.cells #[.int .i64 0, .int .i64 0, .int .i64 0] 40)).cell? ⟨b1, 1, none⟩ = some (.string s) := by
                have h : _ = some (Value.string (str m0.text)) := c12
                rw [k0.2, str_bl] at h
                exact h
              have d21 : (w6.alloc (.cells #[.int .i64 0, .int .i64 0, .int .i64 0] 40)).cell? ⟨b1, 4, none⟩ = some (.int .i64 5) := by have h : _ = some (Value.int .i64 (m1.kind : Int)) := c21; rw [k1] at h; exact h
              have t1 : (s.toList == s.toList) = true := by simp
              have t2 : (s.toList != s.toList) = false := by simp
              clear c11 c12 c21
              go_wp2_with fail
              go_ret
              exact ⟨rfl, HB7.out⟩
            | false =>
              obtain ⟨m0, m1, rfl, k0⟩ : ∃ m0 m1, MS = [m0, m1] ∧ (m0.kind = 4 ∧ m0.text = bl s) := by
                have h := HM2.out
                rw [show Pr.patE ⟨[], bl s, false⟩ ++ [Pr.em 0 []] = [Pr.em 4 (bl s), Pr.em 0 []] from rfl] at h
                obtain ⟨a, b, rfl, e1⟩ := er_two h
                exact ⟨a, b, rfl, er_mk e1⟩
              simp only [List.length_cons, List.length_nil, diagV]
              obtain ⟨b1, hA, q4, c11, c12, _, _⟩ := HMM.out.cell (i := 0) (by simp)
              subst hA
              have d11 : (w6.alloc (.cells #[.int .i64 0, .int .i64 0, .int .i64 0] 40)).cell? ⟨b1, 0, none⟩ = some (.int .i64 4) := by have h : _ = some (Value.int .i64 (m0.kind : Int)) := c11; rw [k0.1] at h; exact h
              have d12 : (w6.alloc (.cells #[.int .i64 0, .int .i64 0, .int .i64 0] 40)).cell? ⟨b1, 1, none⟩ = some (.string s) := by
                have h : _ = some (Value.string (str m0.text)) := c12
                rw [k0.2, str_bl] at h
                exact h
              have t1 : (s.toList == s.toList) = true := by simp
              have t2 : (s.toList != s.toList) = false := by simp
              clear c11 c12
              go_wp2_with fail
              go_ret
              exact ⟨rfl, HB7.out⟩
    · go_enter Tryd.func5, Tryd.ntmps5
      go_wp2_with fail
      refine (awake7_any _ HT.out h0).mono ?_
      rintro e w1 ⟨rfl, hb1⟩
      have HB1 := Lib.hid hb1
      have HT1 := Lib.hid (HT.out.below hb1 h0)
      have hs1 := hb1.size
      clear hb1
      go_wp2_with fail
      -- w1: the world, HT1.out: its Tab, HB1.out: Below W.heap.size W of it
      obtain ⟨wz, hwz⟩ : ∃ wz, wz = w1 := ⟨_, rfl⟩
      have HTZ := Lib.hid (show Tab wz by rw [hwz]; exact HT1.out)
      have HBZ := Lib.hid (show Below W.heap.size W wz by rw [hwz]; exact HB1.out)
      have hsz := HBZ.out.size
      rw [← hwz]
      clear hwz
      go_loopw [10] (fun i wr => ∃ (k m : Nat), (k + 1 ≤ s.size ∨ k = 0) ∧ i = .int .i64 ((k : Int) + 1) ∧ wr = wz.drewN m ∧ Pr.rises (bl s) = Pr.rises ((bl s).drop k)) (fun i _ => s.size + 1 - (intOf i).toNat)
      case atStart => exact ⟨0, 0, .inr rfl, rfl, rfl, rfl⟩
      case round =>
        obtain ⟨k, m, hk, rfl, rfl, hr⟩ := hrel
        by_cases hlt : k + 1 < s.size
        · have h0' : k < s.size := by omega
          have hd := bl_drop s k h0'
          rw [bl_drop s (k + 1) hlt] at hd
          rw [hd] at hr
          have hki : (k : Int) + 1 < (s.size : Int) := by omega
          have hki2 : (k : Int) < (s.size : Int) := by omega
          have hk0 : (0 : Int) ≤ (k : Int) := by omega
          have hk1 : (0 : Int) ≤ (k : Int) + 1 := by omega
          have HD := Lib.hid (bl_drop s (k + 1) hlt)
          clear hd
          by_cases hc : s[k] < s[k + 1]
          · have c1 : ¬ ((s[k + 1].toNat : Int) ≤ (s[k].toNat : Int)) := by have := UInt8.lt_iff_toNat_lt.1 hc; omega
            have hr2 : Pr.rises (bl s) = Pr.rises ((bl s).drop (k + 1)) := by
              rw [hr, HD.out, Pr.rises]; simp [hc]
            have HR := Lib.hid hr2
            clear hr hr2 hc
            go_wp2_with fail
            go_quiet (fail)
            go_wp2_with fail
            go_roundw
            case rel => exact ⟨k + 1, _, Or.inl (by omega), by go_num, rfl, HR.out⟩
            case measure => simp [intOf]; omega
          · have c1 : (s[k + 1].toNat : Int) ≤ (s[k].toNat : Int) := by
              have : ¬ s[k].toNat < s[k + 1].toNat := fun h => hc (UInt8.lt_iff_toNat_lt.2 h)
              omega
            clear hr hc
            go_wp2_with fail
            go_quiet (fail)
            go_wp2_with fail
            go_ret
            exact ⟨rfl, below_drewN (below_drewN HBZ.out _) _⟩
        · have hr2 : Pr.rises (bl s) = true := by
            rw [hr]
            have : ((bl s).drop k).length ≤ 1 := by rw [List.length_drop, bl_length]; omega
            match (bl s).drop k, this with
            | [], _ => rfl
            | [a], _ => rfl
            | a :: b :: r, h => simp at h
          have hge : (s.size : Int) ≤ (k : Int) + 1 := by omega
          by_cases hs0 : bl s = []
          · have hz : s.toList.isEmpty = true := by rw [toList_eq, hs0]; rfl
            have hz2 : (s.toList == (⟨#[]⟩ : ByteArray).toList) = true := by
              rw [show (⟨#[]⟩ : ByteArray) = str [] from rfl, str_beq, hs0]; rfl
            clear hr hr2 hs0
            go_wp2_with fail
            go_ret
            exact ⟨rfl, below_drewN HBZ.out _⟩
          · have hz : s.toList.isEmpty = false := by
              rw [toList_eq]
              cases hbs : bl s with
              | nil => exact absurd hbs hs0
              | cons a r => rfl
            have hz2 : (s.toList == (⟨#[]⟩ : ByteArray).toList) = false := by
              rw [show (⟨#[]⟩ : ByteArray) = str [] from rfl, str_beq]
              simpa using hs0
            have hok : Pr.patOk ⟨[], bl s, many⟩ = true := by
              unfold Pr.patOk; rw [if_pos rfl]; simp only [Bool.and_eq_true, bne_iff_ne]; exact ⟨hs0, hr2⟩
            obtain ⟨MS, hm1, hm2, hm3⟩ := lex_pattern hok
            have HPAT := Lib.hid (show ∀ w, Calls Tryd.prog 14 #[.agg #[.string ⟨#[]⟩, .string s, .bool many]] w fun e w' => e = .returned (.string (str (Pr.pattern ⟨[], bl s, many⟩))) ∧ Below w.heap.size w w' from fun w => pattern7_any ⟨[], bl s, many⟩ w (by simp) (by rw [bl_length]; omega))
            have hpl := Pr.pattern_len hok
            obtain ⟨Q, hQ⟩ : ∃ Q, str (Pr.pattern ⟨[], bl s, many⟩) = Q := ⟨_, rfl⟩
            have hQs : Q.size ≤ 9223372036854775807 := by rw [← bl_length, ← hQ, bl_str]; omega
            have hbQ : Pr.pattern ⟨[], bl s, many⟩ = bl Q := by rw [← hQ, bl_str]
            rw [hQ] at HPAT
            rw [hbQ] at hm1 hm3
            have HM1 := Lib.hid hm1
            have HM3 := Lib.hid hm3
            have HM2 := Lib.hid hm2
            clear hr hr2 hs0 hok hm1 hm2 hm3 hpl hQ hbQ
            go_wp2_with fail
            refine (HPAT.out _).mono ?_
            rintro e w5 ⟨rfl, hb5⟩
            have HB5 := Lib.hid ((below_drewN HBZ.out m).trans (hb5.mono (by simpa using hsz)))
            have HT5 := Lib.hid ((HTZ.out.drewN m).below hb5 (by simp; omega))
            have hs5 := HB5.out.size
            clear hb5
            go_wp2_with fail
            refine (lex_is Q MS (0, 0, 0) w5 hQs HT5.out (by omega) HM1.out HM3.out).mono ?_
            rintro e w6 ⟨⟨A6, cap6, rfl, hmm⟩, hb6⟩
            have HB6 := Lib.hid (HB5.out.trans (hb6.mono hs5))
            have hs6 := HB6.out.size
            have HMM := Lib.hid (hmm.below ((Below.refl _ _).alloc (Nat.le_refl _) (.cells #[.int .i64 0, .int .i64 0, .int .i64 0] 40)))
            have HB7 := Lib.hid (HB6.out.alloc hs6 (.cells #[.int .i64 0, .int .i64 0, .int .i64 0] 40))
            clear hmm hb6
            cases many with
            | true =>
              obtain ⟨m0, m1, m2, rfl, k0, k1⟩ : ∃ m0 m1 m2, MS = [m0, m1, m2] ∧ (m0.kind = 4 ∧ m0.text = bl s) ∧ m1.kind = 5 := by
                have h := HM2.out
                rw [show Pr.patE ⟨[], bl s, true⟩ ++ [Pr.em 0 []] = [Pr.em 4 (bl s), Pr.em 5 [], Pr.em 0 []] from rfl] at h
                obtain ⟨a, b, c, rfl, e1, e2⟩ := er_three h
                exact ⟨a, b, c, rfl, er_mk e1, (er_mk e2).1⟩
              simp only [List.length_cons, List.length_nil, diagV]
              obtain ⟨b1, hA, q4, c11, c12, _, _⟩ := HMM.out.cell (i := 0) (by simp)
              subst hA
              obtain ⟨b1', hA, q4', c21, _, _, _⟩ := HMM.out.cell (i := 1) (by simp)
              obtain rfl : b1 = b1' := by injection hA with h; injection h
              have d11 : (w6.alloc (.cells #[.int .i64 0, .int .i64 0, .int .i64 0] 40)).cell? ⟨b1, 0, none⟩ = some (.int .i64 4) := by have h : _ = some (Value.int .i64 (m0.kind : Int)) := c11; rw [k0.1] at h; exact h
              have d12 : (w6.alloc (.cells #[.int .i64 0, .int .i64 0, .int .i64 0] 40)).cell? ⟨b1, 1, none⟩ = some (.string s) := by
                have h : _ = some (Value.string (str m0.text)) := c12
                rw [k0.2, str_bl] at h
                exact h
              have d21 : (w6.alloc (.cells #[.int .i64 0, .int .i64 0, .int .i64 0] 40)).cell? ⟨b1, 4, none⟩ = some (.int .i64 5) := by have h : _ = some (Value.int .i64 (m1.kind : Int)) := c21; rw [k1] at h; exact h
              have t1 : (s.toList == s.toList) = true := by simp
              have t2 : (s.toList != s.toList) = false := by simp
              clear c11 c12 c21
              go_wp2_with fail
              go_ret
              exact ⟨rfl, HB7.out⟩
            | false =>
              obtain ⟨m0, m1, rfl, k0⟩ : ∃ m0 m1, MS = [m0, m1] ∧ (m0.kind = 4 ∧ m0.text = bl s) := by
                have h := HM2.out
                rw [show Pr.patE ⟨[], bl s, false⟩ ++ [Pr.em 0 []] = [Pr.em 4 (bl s), Pr.em 0 []] from rfl] at h
                obtain ⟨a, b, rfl, e1⟩ := er_two h
                exact ⟨a, b, rfl, er_mk e1⟩
              simp only [List.length_cons, List.length_nil, diagV]
              obtain ⟨b1, hA, q4, c11, c12, _, _⟩ := HMM.out.cell (i := 0) (by simp)
              subst hA
              have d11 : (w6.alloc (.cells #[.int .i64 0, .int .i64 0, .int .i64 0] 40)).cell? ⟨b1, 0, none⟩ = some (.int .i64 4) := by have h : _ = some (Value.int .i64 (m0.kind : Int)) := c11; rw [k0.1] at h; exact h
              have d12 : (w6.alloc (.cells #[.int .i64 0, .int .i64 0, .int .i64 0] 40)).cell? ⟨b1, 1, none⟩ = some (.string s) := by
                have h : _ = some (Value.string (str m0.text)) := c12
                rw [k0.2, str_bl] at h
                exact h
              have t1 : (s.toList == s.toList) = true := by simp
              have t2 : (s.toList != s.toList) = false := by simp
              clear c11 c12
              go_wp2_with fail
              go_ret
              exact ⟨rfl, HB7.out⟩

end Go.Proofs.YtgmihbfikggkjaaDoor
