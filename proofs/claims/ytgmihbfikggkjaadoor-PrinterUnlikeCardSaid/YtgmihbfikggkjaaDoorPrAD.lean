/-
  The walks of tronagelaw07's awake and PrinterPatterns.
  What is read can be read: each grammar that the reader reads is one that the printer prints.
  The walks of printer.Canon, tronagelaw07.PrinterReads.
  A grammar as an argument, opened: the grammar that its cells tell ('open_gram'); no text, no list of it is longer than a machine's memory.
  The walk of tronageref07.Few: is a grammar of a size that is looked at? What it adds up, by itself where that is less than 2^62.
  The walks of tronageref05's Texts and tronageref06's Same, at two values of one grammar that are told by their cells.
  The walk of tronagelaw07.PrinterBack.
  The walks of tronageref05's Texts and tronageref06's Same, at things that are not the same.
  The walk of tronagelaw07.PrinterUnlike.
-/
import Derived.Test.YtgmihbfikggkjaaDoorPrAA
import Derived.Test.YtgmihbfikggkjaaDoorPrU
import Derived.Test.YtgmihbfikggkjaaDoorPrX
import Derived.Test.YtgmihbfikggkjaaDoorOps3
import Derived.Deep.Strs
import Derived.SizedLaws
import Derived.BigQuiet
import Derived.Deep.QuietTactic
namespace Go.Proofs.YtgmihbfikggkjaaDoor
open Go.RowKit
open Lx
set_option linter.unusedVariables false
set_option linter.unusedSimpArgs false
set_option maxRecDepth 100000

def awG : Rd.G := ⟨[], [], [], [69], [⟨[69], [[69], [78]], [], [49]⟩]⟩
theorem awG_print : printV awG = .tuple #[.string (str [37, 115, 116, 97, 114, 116, 32, 69, 10, 37, 37, 10, 69, 32, 58, 32, 69, 32, 78, 32, 123, 49, 125, 32, 59, 10]), .int .i64 0] := by
  unfold printV
  rw [if_pos (show Pr.rightB awG = true by decide +kernel), if_neg (show ¬ 4000 < (Pr.text awG).length by decide +kernel)]
  have h : Pr.text awG = [37, 115, 116, 97, 114, 116, 32, 69, 10, 37, 37, 10, 69, 32, 58, 32, 69, 32, 78, 32, 123, 49, 125, 32, 59, 10] := by decide +kernel
  rw [h]
theorem awP : Pr.pattern ⟨[], [45, 48], true⟩ = [91, 92, 45, 48, 93, 43] := by decide +kernel
theorem awG_sz : Sz awG := by
  refine ⟨?_, ?_, ?_, ?_, ?_, ?_, ?_, ?_, ?_⟩ <;> simp [awG]

set_option maxHeartbeats 1000000 in
theorem awake7_any (w : World) (hT : Tab w) (h0 : 0 < w.heap.size) :
    Calls Tryd.prog 10 #[] w fun e w' => e = .returned (.bool true) ∧ Below w.heap.size w w' := by
  have hb : Below w.heap.size w ((w.alloc (.cells #[.string ⟨#[69]⟩, .string ⟨#[78]⟩] 9)).alloc (.cells #[.string ⟨#[69]⟩, .slice (some ⟨w.heap.size, 0, none⟩) 2 2, .string ⟨#[]⟩, .string ⟨#[49]⟩] 30)) := ((Below.refl _ _).alloc (Nat.le_refl _) _).alloc (by simp) _
  have ha1 := (At.new w 9 #[.string ⟨#[69]⟩, .string ⟨#[78]⟩]).alloc (.cells #[.string ⟨#[69]⟩, .slice (some ⟨w.heap.size, 0, none⟩) 2 2, .string ⟨#[]⟩, .string ⟨#[49]⟩] 30)
  have ha2 := At.new (w.alloc (.cells #[.string ⟨#[69]⟩, .string ⟨#[78]⟩] 9)) 30 #[.string ⟨#[69]⟩, .slice (some ⟨w.heap.size, 0, none⟩) 2 2, .string ⟨#[]⟩, .string ⟨#[49]⟩]
  rw [show (w.alloc (.cells #[.string ⟨#[69]⟩, .string ⟨#[78]⟩] 9)).heap.size = w.heap.size + 1 by simp] at ha2
  obtain ⟨W, hW⟩ : ∃ W, (w.alloc (.cells #[.string ⟨#[69]⟩, .string ⟨#[78]⟩] 9)).alloc (.cells #[.string ⟨#[69]⟩, .slice (some ⟨w.heap.size, 0, none⟩) 2 2, .string ⟨#[]⟩, .string ⟨#[49]⟩] 30) = W := ⟨_, rfl⟩
  rw [hW] at hb ha1 ha2
  have hgc : GramC W W.heap.size (.agg #[.slice none 0 0, .slice none 0 0, .slice none 0 0, .string ⟨#[69]⟩, .slice (some ⟨w.heap.size + 1, 0, none⟩) 1 1]) awG := by
    refine ⟨none, 0, none, 0, none, 0, some ⟨w.heap.size + 1, 0, none⟩, 1, [], [(⟨[69], [[69], [78]], [], [49]⟩, .slice (some ⟨w.heap.size, 0, none⟩) 2 2)], rfl, Cl.nil _ _ _, Cl.nil _ _ _, Cl.nil _ _ _, rfl, by simp, ⟨fun _ => ⟨_, _, rfl, ha2.lt, fun j u hu => ?_⟩⟩, rfl, fun p hp => ?_⟩
    · rw [Nat.zero_add, ha2.cell]
      rw [← hu]; simp [rulesV, ruleCells]; rfl
    · simp only [List.mem_cons, List.not_mem_nil, or_false] at hp
      subst hp
      refine ⟨_, _, rfl, ⟨fun _ => ⟨_, _, rfl, ha1.lt, fun j u hu => ?_⟩⟩⟩
      rw [Nat.zero_add, ha1.cell]
      rw [← hu]; simp [namesV]; rfl
  have HP := Lib.hid (print_any _ awG W.heap.size W hgc (Nat.le_refl _) awG_sz (hT.below hb h0) (by have := hb.size; omega) (fun _ => by decide +kernel))
  rw [awG_print] at HP
  have HPA := Lib.hid (fun w => pattern7_any ⟨[], [45, 48], true⟩ w (by decide) (by decide))
  rw [awP] at HPA
  unfold patV at HPA
  have HB := Lib.hid hb
  have HW := Lib.hid hW
  clear hb ha1 ha2 hW hgc hT h0
  have f1 : ((str [37, 115, 116, 97, 114, 116, 32, 69, 10, 37, 37, 10, 69, 32, 58, 32, 69, 32, 78, 32, 123, 49, 125, 32, 59, 10]).toList == (⟨#[37, 115, 116, 97, 114, 116, 32, 69, 10, 37, 37, 10, 69, 32, 58, 32, 69, 32, 78, 32, 123, 49, 125, 32, 59, 10]⟩ : ByteArray).toList) = true := by rw [toList_eq, toList_eq, bl_str]; rfl
  have f2 : ((str [91, 92, 45, 48, 93, 43]).toList == (⟨#[91, 92, 45, 48, 93, 43]⟩ : ByteArray).toList) = true := by rw [toList_eq, toList_eq, bl_str]; rfl
  have e1 : (⟨#[37, 115, 116, 97, 114, 116, 32, 69, 10, 37, 37, 10, 69, 32, 58, 32, 69, 32, 78, 32, 123, 49, 125, 32, 59, 10]⟩ : ByteArray).toList = [37, 115, 116, 97, 114, 116, 32, 69, 10, 37, 37, 10, 69, 32, 58, 32, 69, 32, 78, 32, 123, 49, 125, 32, 59, 10] := by rw [toList_eq]; rfl
  have e2 : (⟨#[91, 92, 45, 48, 93, 43]⟩ : ByteArray).toList = [91, 92, 45, 48, 93, 43] := by rw [toList_eq]; rfl
  rw [e1] at f1
  rw [e2] at f2
  clear e1 e2
  go_enter Tryd.func10, Tryd.ntmps10
  go_wp2_with fail
  rw [HW.out]
  refine HP.out.mono ?_
  rintro e w1 ⟨rfl, hb1⟩
  go_wp2_with fail
  refine (HPA.out _).mono ?_
  rintro e w2 ⟨rfl, hb2⟩
  go_wp2_with fail
  go_ret
  exact ⟨rfl, HB.out.trans ((hb1.trans (hb2.mono hb1.size)).mono HB.out.size)⟩

/-- The marks of a pattern's text. -/
theorem lex_pattern {p : Rd.Pat} (h : Pr.patOk p = true) : ∃ MS : List Mk, (lex (Pr.pattern p)).marks (Pr.pattern p) = MS ∧ MS.map Rd.er = Pr.patE p ++ [Pr.em 0 []] ∧ (lex (Pr.pattern p)).diag (Pr.pattern p) = (0, 0, 0) := by
  have h1 := Pr.pe_pattern_then h Rd.pe_nil
  rw [List.append_nil, List.append_nil] at h1
  obtain ⟨ms, h2, h3⟩ := Pr.lex_pe h1 (by have := Pr.pattern_len h; omega)
  refine ⟨ms.map (mkOf (Pr.pattern p)), by rw [h2]; rfl, by rw [Rd.er_mkOf]; exact h3, by rw [h2]; rfl⟩
theorem er_two {MS : List Mk} {a b : Mk} (h : MS.map Rd.er = [a, b]) : ∃ m0 m1, MS = [m0, m1] ∧ Rd.er m0 = a := by
  cases MS with
  | nil => simp at h
  | cons x r =>
    cases r with
    | nil => simp at h
    | cons y r =>
      cases r with
      | nil => simp at h; exact ⟨x, y, rfl, h.1⟩
      | cons z r => simp at h
theorem er_three {MS : List Mk} {a b c : Mk} (h : MS.map Rd.er = [a, b, c]) : ∃ m0 m1 m2, MS = [m0, m1, m2] ∧ Rd.er m0 = a ∧ Rd.er m1 = b := by
  cases MS with
  | nil => simp at h
  | cons x r =>
    simp only [List.map_cons, List.cons.injEq] at h
    obtain ⟨y, z, rfl, h2⟩ := er_two h.2
    exact ⟨x, y, z, rfl, h.1, h2⟩
theorem er_mk {m : Mk} {k : Nat} {t : Rd.Name} (h : Rd.er m = Pr.em k t) : m.kind = k ∧ m.text = t := by
  unfold Rd.er Pr.em at h
  injection h with h1 h2
  exact ⟨h1, h2⟩

set_option maxHeartbeats 4000000 in
theorem patterns_law (t : ByteArray) (ht : t.size ≤ 9223372036854775807) (s : ByteArray) (hs : s.size ≤ 9223372036854775807) (many : Bool) (W : World) (hT : Tab W) (h0 : 0 < W.heap.size) :
    Calls Tryd.prog 5 #[.string t, .string s, .bool many] W fun e w' => e = .returned (.bool true) ∧ Below W.heap.size W w' := by
  have HT := Lib.hid hT
  clear hT
  by_cases h1 : t.size ≤ 40
  rotate_left
  · have h1' : ¬ (t.size : Int) ≤ 40 := by omega
    have h1'' : (40 : Int) < (t.size : Int) := by omega
    go_enter Tryd.func5, Tryd.ntmps5
    go_wp2_with fail
    refine (awake7_any _ HT.out h0).mono ?_
    rintro e w1 ⟨rfl, hb1⟩
    go_wp2_with fail
    go_ret
    exact ⟨rfl, hb1⟩
  by_cases h2 : s.size ≤ 40
  rotate_left
  · have h1' : (t.size : Int) ≤ 40 := by omega
    have h2'' : (40 : Int) < (s.size : Int) := by omega
    go_enter Tryd.func5, Tryd.ntmps5
    go_wp2_with fail
    refine (awake7_any _ HT.out h0).mono ?_
    rintro e w1 ⟨rfl, hb1⟩
    go_wp2_with fail
    go_ret
    exact ⟨rfl, hb1⟩
  have h1' : (t.size : Int) ≤ 40 := by omega
  have h2' : (s.size : Int) ≤ 40 := by omega
  by_cases h3 : bl t ≠ [] ∧ t.size ≤ 32
  · obtain ⟨h3, h4⟩ := h3
    have h4' : (t.size : Int) ≤ 32 := by omega
    have y1 : t.toList.isEmpty = false := by
      rw [toList_eq]
      cases hbs : bl t with
      | nil => exact absurd hbs h3
      | cons a r => rfl
    have hok : Pr.patOk ⟨bl t, [], false⟩ = true := by
      unfold Pr.patOk; rw [if_neg h3]; simp only [Bool.and_eq_true, decide_eq_true_eq]; exact ⟨by rw [bl_length]; exact h4, by decide, by decide⟩
    obtain ⟨MS, hm1, hm2, hm3⟩ := lex_pattern hok
    have HPATT := Lib.hid (show ∀ w, Calls Tryd.prog 14 #[.agg #[.string t, .string ⟨#[]⟩, .bool false]] w fun e w' => e = .returned (.string (str (Pr.pattern ⟨bl t, [], false⟩))) ∧ Below w.heap.size w w' from fun w => pattern7_any ⟨bl t, [], false⟩ w (by rw [bl_length]; omega) (by simp))
    have hpl := Pr.pattern_len hok
    obtain ⟨Q, hQ⟩ : ∃ Q, str (Pr.pattern ⟨bl t, [], false⟩) = Q := ⟨_, rfl⟩
    have hQs : Q.size ≤ 9223372036854775807 := by rw [← bl_length, ← hQ, bl_str]; omega
    have hbQ : Pr.pattern ⟨bl t, [], false⟩ = bl Q := by rw [← hQ, bl_str]
    rw [hQ] at HPATT
    rw [hbQ] at hm1 hm3
    obtain ⟨m0, m1, rfl, k0⟩ : ∃ m0 m1, MS = [m0, m1] ∧ (m0.kind = 3 ∧ m0.text = bl t) := by
      have h := hm2
      rw [show Pr.patE ⟨bl t, [], false⟩ = [Pr.em 3 (bl t)] by unfold Pr.patE; rw [if_neg h3]] at h
      obtain ⟨a, b, rfl, e1⟩ := er_two h
      exact ⟨a, b, rfl, er_mk e1⟩
    have HM1 := Lib.hid hm1
    have HM3 := Lib.hid hm3
    clear hm1 hm2 hm3 hpl hQ hbQ hok h3
    go_enter Tryd.func5, Tryd.ntmps5
    go_wp2_with fail
    refine (awake7_any _ HT.out h0).mono ?_
    rintro e w1 ⟨rfl, hb1⟩
    have HB1 := Lib.hid hb1
    have HT1 := Lib.hid (HT.out.below hb1 h0)
    have hs1 := hb1.size
    clear hb1
    go_wp2_with fail
    refine (HPATT.out _).mono ?_
    rintro e w2 ⟨rfl, hb2⟩
    have HB2 := Lib.hid (HB1.out.trans (hb2.mono hs1))
    have HT2 := Lib.hid (HT1.out.below hb2 (by omega))
    have hs2 := HB2.out.size
    clear hb2
    go_wp2_with fail
    refine (lex_is Q _ (0, 0, 0) w2 hQs HT2.out (by omega) HM1.out HM3.out).mono ?_
    rintro e w3 ⟨⟨A3, cap3, rfl, hmm⟩, hb3⟩
    have HB3 := Lib.hid (HB2.out.trans (hb3.mono hs2))
    have hs3 := HB3.out.size
    have HT3 := Lib.hid ((HT2.out.below hb3 (by omega)).below ((Below.refl _ _).alloc (Nat.le_refl _) (.cells #[.int .i64 0, .int .i64 0, .int .i64 0] 40)) (by omega))
    have HMM := Lib.hid (hmm.below ((Below.refl _ _).alloc (Nat.le_refl _) (.cells #[.int .i64 0, .int .i64 0, .int .i64 0] 40)))
    have HB4 := Lib.hid (HB3.out.alloc hs3 (.cells #[.int .i64 0, .int .i64 0, .int .i64 0] 40))
    clear hmm hb3
    rw [show [m0, m1].length = 2 from rfl, show diagV (0, 0, 0) = .agg #[.int .i64 0, .int .i64 0, .int .i64 0] from rfl]
    obtain ⟨b1, hA, q4, c11, c12, _, _⟩ := HMM.out.cell (i := 0) (by simp)
    subst hA
    have d11 : (w3.alloc (.cells #[.int .i64 0, .int .i64 0, .int .i64 0] 40)).cell? ⟨b1, 0, none⟩ = some (.int .i64 3) := by have h : _ = some (Value.int .i64 (m0.kind : Int)) := c11; rw [k0.1] at h; exact h
    have d12 : (w3.alloc (.cells #[.int .i64 0, .int .i64 0, .int .i64 0] 40)).cell? ⟨b1, 1, none⟩ = some (.string t) := by
      have h : _ = some (Value.string (str m0.text)) := c12
      rw [k0.2, str_bl] at h
      exact h
    have t1 : (t.toList == t.toList) = true := by simp
    have t2 : (t.toList != t.toList) = false := by simp
    clear c11 c12
    go_wp2_with fail
    clear y1 t1 t2 d11 d12 h4' h4
    -- (w3.alloc (.cells #[.int .i64 0, .int .i64 0, .int .i64 0] 40)): the world, HT3.out: its Tab, HB4.out: Below W.heap.size W of it
    obtain ⟨wz, hwz⟩ : ∃ wz, wz = (w3.alloc (.cells #[.int .i64 0, .int .i64 0, .int .i64 0] 40)) := ⟨_, rfl⟩
    have HTZ := Lib.hid (show Tab wz by rw [hwz]; exact HT3.out)
    have HBZ := Lib.hid (show Below W.heap.size W wz by rw [hwz]; exact HB4.out)
    have hsz := HBZ.out.size
    rw [← hwz]
    clear hwz
    go_loopw [10] (fun i wr => ∃ (k m : Nat), (k + 1 ≤ s.size ∨ k = 0) ∧ i = .int .i64 ((k : Int) + 1) ∧ wr = wz.drewN m ∧ Pr.rises (bl s) = Pr.rises ((bl s).drop k)) (fun i _ => s.size + 1 - (intOf i).toNat)
    case atStart => exact ⟨0, 0, .inr rfl, rfl, rfl, rfl⟩
    case round =>
      obtain ⟨k, m, hk, rfl, rfl, hr⟩ := hrel
      by_cases hlt : k + 1 < s.size
      · have h0' : k < s.size := by omega
        have hd := bl_drop s k h0'
        rw [bl_drop s (k + 1) hlt] at hd
        rw [hd] at hr
        have hki : (k : Int) + 1 < (s.size : Int) := by omega
        have hki2 : (k : Int) < (s.size : Int) := by omega
        have hk0 : (0 : Int) ≤ (k : Int) := by omega
        have hk1 : (0 : Int) ≤ (k : Int) + 1 := by omega
        have HD := Lib.hid (bl_drop s (k + 1) hlt)
        clear hd
        by_cases hc : s[k] < s[k + 1]
        · have c1 : ¬ ((s[k + 1].toNat : Int) ≤ (s[k].toNat : Int)) := by have := UInt8.lt_iff_toNat_lt.1 hc; omega
          have hr2 : Pr.rises (bl s) = Pr.rises ((bl s).drop (k + 1)) := by
            rw [hr, HD.out, Pr.rises]; simp [hc]
          have HR := Lib.hid hr2
          clear hr hr2 hc
          go_wp2_with fail
          go_quiet (fail)
          go_wp2_with fail
          go_roundw
          case rel => exact ⟨k + 1, _, Or.inl (by omega), by go_num, rfl, HR.out⟩
          case measure => simp [intOf]; omega
        · have c1 : (s[k + 1].toNat : Int) ≤ (s[k].toNat : Int) := by
            have : ¬ s[k].toNat < s[k + 1].toNat := fun h => hc (UInt8.lt_iff_toNat_lt.2 h)
            omega
          clear hr hc
          go_wp2_with fail
          go_quiet (fail)
          go_wp2_with fail
          go_ret
          exact ⟨rfl, below_drewN (below_drewN HBZ.out _) _⟩
      · have hr2 : Pr.rises (bl s) = true := by
          rw [hr]
          have : ((bl s).drop k).length ≤ 1 := by rw [List.length_drop, bl_length]; omega
          match (bl s).drop k, this with
          | [], _ => rfl
          | [a], _ => rfl
          | a :: b :: r, h => simp at h
        have hge : (s.size : Int) ≤ (k : Int) + 1 := by omega
        by_cases hs0 : bl s = []
        · have hz : s.toList.isEmpty = true := by rw [toList_eq, hs0]; rfl
          have hz2 : (s.toList == (⟨#[]⟩ : ByteArray).toList) = true := by
            rw [show (⟨#[]⟩ : ByteArray) = str [] from rfl, str_beq, hs0]; rfl
          clear hr hr2 hs0
          go_wp2_with fail
          go_ret
          exact ⟨rfl, below_drewN HBZ.out _⟩
        · have hz : s.toList.isEmpty = false := by
            rw [toList_eq]
            cases hbs : bl s with
            | nil => exact absurd hbs hs0
            | cons a r => rfl
          have hz2 : (s.toList == (⟨#[]⟩ : ByteArray).toList) = false := by
            rw [show (⟨#[]⟩ : ByteArray) = str [] from rfl, str_beq]
            simpa using hs0
          have hok : Pr.patOk ⟨[], bl s, many⟩ = true := by
            unfold Pr.patOk; rw [if_pos rfl]; simp only [Bool.and_eq_true, bne_iff_ne]; exact ⟨hs0, hr2⟩
          obtain ⟨MS, hm1, hm2, hm3⟩ := lex_pattern hok
          have HPAT := Lib.hid (show ∀ w, Calls Tryd.prog 14 #[.agg #[.string ⟨#[]⟩, .string s, .bool many]] w fun e w' => e = .returned (.string (str (Pr.pattern ⟨[], bl s, many⟩))) ∧ Below w.heap.size w w' from fun w => pattern7_any ⟨[], bl s, many⟩ w (by simp) (by rw [bl_length]; omega))
          have hpl := Pr.pattern_len hok
          obtain ⟨Q, hQ⟩ : ∃ Q, str (Pr.pattern ⟨[], bl s, many⟩) = Q := ⟨_, rfl⟩
          have hQs : Q.size ≤ 9223372036854775807 := by rw [← bl_length, ← hQ, bl_str]; omega
          have hbQ : Pr.pattern ⟨[], bl s, many⟩ = bl Q := by rw [← hQ, bl_str]
          rw [hQ] at HPAT
          rw [hbQ] at hm1 hm3
          have HM1 := Lib.hid hm1
          have HM3 := Lib.hid hm3
          have HM2 := Lib.hid hm2
          clear hr hr2 hs0 hok hm1 hm2 hm3 hpl hQ hbQ
          go_wp2_with fail
          refine (HPAT.out _).mono ?_
          rintro e w5 ⟨rfl, hb5⟩
          have HB5 := Lib.hid ((below_drewN HBZ.out m).trans (hb5.mono (by simpa using hsz)))
          have HT5 := Lib.hid ((HTZ.out.drewN m).below hb5 (by simp; omega))
          have hs5 := HB5.out.size
          clear hb5
          go_wp2_with fail
          refine (lex_is Q MS (0, 0, 0) w5 hQs HT5.out (by omega) HM1.out HM3.out).mono ?_
          rintro e w6 ⟨⟨A6, cap6, rfl, hmm⟩, hb6⟩
          have HB6 := Lib.hid (HB5.out.trans (hb6.mono hs5))
          have hs6 := HB6.out.size
          have HMM := Lib.hid (hmm.below ((Below.refl _ _).alloc (Nat.le_refl _) (.cells #[.int .i64 0, .int .i64 0, .int .i64 0] 40)))
          have HB7 := Lib.hid (HB6.out.alloc hs6 (.cells #[.int .i64 0, .int .i64 0, .int .i64 0] 40))
          clear hmm hb6
          cases many with
          | true =>
            obtain ⟨m0, m1, m2, rfl, k0, k1⟩ : ∃ m0 m1 m2, MS = [m0, m1, m2] ∧ (m0.kind = 4 ∧ m0.text = bl s) ∧ m1.kind = 5 := by
              have h := HM2.out
              rw [show Pr.patE ⟨[], bl s, true⟩ ++ [Pr.em 0 []] = [Pr.em 4 (bl s), Pr.em 5 [], Pr.em 0 []] from rfl] at h
              obtain ⟨a, b, c, rfl, e1, e2⟩ := er_three h
              exact ⟨a, b, c, rfl, er_mk e1, (er_mk e2).1⟩
            simp only [List.length_cons, List.length_nil, diagV]
            obtain ⟨b1, hA, q4, c11, c12, _, _⟩ := HMM.out.cell (i := 0) (by simp)
            subst hA
            obtain ⟨b1', hA, q4', c21, _, _, _⟩ := HMM.out.cell (i := 1) (by simp)
            obtain rfl : b1 = b1' := by injection hA with h; injection h
            have d11 : (w6.alloc (.cells #[.int .i64 0, .int .i64 0, .int .i64 0] 40)).cell? ⟨b1, 0, none⟩ = some (.int .i64 4) := by have h : _ = some (Value.int .i64 (m0.kind : Int)) := c11; rw [k0.1] at h; exact h
            have d12 : (w6.alloc (.cells #[.int .i64 0, .int .i64 0, .int .i64 0] 40)).cell? ⟨b1, 1, none⟩ = some (.string s) := by
              have h : _ = some (Value.string (str m0.text)) := c12
              rw [k0.2, str_bl] at h
              exact h
            have d21 : (w6.alloc (.cells #[.int .i64 0, .int .i64 0, .int .i64 0] 40)).cell? ⟨b1, 4, none⟩ = some (.int .i64 5) := by have h : _ = some (Value.int .i64 (m1.kind : Int)) := c21; rw [k1] at h; exact h
            have t1 : (s.toList == s.toList) = true := by simp
            have t2 : (s.toList != s.toList) = false := by simp
            clear c11 c12 c21
            go_wp2_with fail
            go_ret
            exact ⟨rfl, HB7.out⟩
          | false =>
            obtain ⟨m0, m1, rfl, k0⟩ : ∃ m0 m1, MS = [m0, m1] ∧ (m0.kind = 4 ∧ m0.text = bl s) := by
              have h := HM2.out
              rw [show Pr.patE ⟨[], bl s, false⟩ ++ [Pr.em 0 []] = [Pr.em 4 (bl s), Pr.em 0 []] from rfl] at h
              obtain ⟨a, b, rfl, e1⟩ := er_two h
              exact ⟨a, b, rfl, er_mk e1⟩
            simp only [List.length_cons, List.length_nil, diagV]
            obtain ⟨b1, hA, q4, c11, c12, _, _⟩ := HMM.out.cell (i := 0) (by simp)
            subst hA
            have d11 : (w6.alloc (.cells #[.int .i64 0, .int .i64 0, .int .i64 0] 40)).cell? ⟨b1, 0, none⟩ = some (.int .i64 4) := by have h : _ = some (Value.int .i64 (m0.kind : Int)) := c11; rw [k0.1] at h; exact h
            have d12 : (w6.alloc (.cells #[.int .i64 0, .int .i64 0, .int .i64 0] 40)).cell? ⟨b1, 1, none⟩ = some (.string s) := by
              have h : _ = some (Value.string (str m0.text)) := c12
              rw [k0.2, str_bl] at h
              exact h
            have t1 : (s.toList == s.toList) = true := by simp
            have t2 : (s.toList != s.toList) = false := by simp
            clear c11 c12
            go_wp2_with fail
            go_ret
            exact ⟨rfl, HB7.out⟩
  · have h3x : t.toList.isEmpty = true ∨ (t.toList.isEmpty = false ∧ ¬ (t.size : Int) ≤ 32) := by
      by_cases hb : bl t = []
      · exact .inl (by rw [toList_eq, hb]; rfl)
      · refine .inr ⟨?_, fun h => h3 ⟨hb, by omega⟩⟩
        rw [toList_eq]
        cases hbs : bl t with
        | nil => exact absurd hbs hb
        | cons a r => rfl
    clear h3
    rcases h3x with h3 | ⟨h3, h4⟩
    · go_enter Tryd.func5, Tryd.ntmps5
      go_wp2_with fail
      refine (awake7_any _ HT.out h0).mono ?_
      rintro e w1 ⟨rfl, hb1⟩
      have HB1 := Lib.hid hb1
      have HT1 := Lib.hid (HT.out.below hb1 h0)
      have hs1 := hb1.size
      clear hb1
      go_wp2_with fail
      -- w1: the world, HT1.out: its Tab, HB1.out: Below W.heap.size W of it
      obtain ⟨wz, hwz⟩ : ∃ wz, wz = w1 := ⟨_, rfl⟩
      have HTZ := Lib.hid (show Tab wz by rw [hwz]; exact HT1.out)
      have HBZ := Lib.hid (show Below W.heap.size W wz by rw [hwz]; exact HB1.out)
      have hsz := HBZ.out.size
      rw [← hwz]
      clear hwz
      go_loopw [10] (fun i wr => ∃ (k m : Nat), (k + 1 ≤ s.size ∨ k = 0) ∧ i = .int .i64 ((k : Int) + 1) ∧ wr = wz.drewN m ∧ Pr.rises (bl s) = Pr.rises ((bl s).drop k)) (fun i _ => s.size + 1 - (intOf i).toNat)
      case atStart => exact ⟨0, 0, .inr rfl, rfl, rfl, rfl⟩
      case round =>
        obtain ⟨k, m, hk, rfl, rfl, hr⟩ := hrel
        by_cases hlt : k + 1 < s.size
        · have h0' : k < s.size := by omega
          have hd := bl_drop s k h0'
          rw [bl_drop s (k + 1) hlt] at hd
          rw [hd] at hr
          have hki : (k : Int) + 1 < (s.size : Int) := by omega
          have hki2 : (k : Int) < (s.size : Int) := by omega
          have hk0 : (0 : Int) ≤ (k : Int) := by omega
          have hk1 : (0 : Int) ≤ (k : Int) + 1 := by omega
          have HD := Lib.hid (bl_drop s (k + 1) hlt)
          clear hd
          by_cases hc : s[k] < s[k + 1]
          · have c1 : ¬ ((s[k + 1].toNat : Int) ≤ (s[k].toNat : Int)) := by have := UInt8.lt_iff_toNat_lt.1 hc; omega
            have hr2 : Pr.rises (bl s) = Pr.rises ((bl s).drop (k + 1)) := by
              rw [hr, HD.out, Pr.rises]; simp [hc]
            have HR := Lib.hid hr2
            clear hr hr2 hc
            go_wp2_with fail
            go_quiet (fail)
            go_wp2_with fail
            go_roundw
            case rel => exact ⟨k + 1, _, Or.inl (by omega), by go_num, rfl, HR.out⟩
            case measure => simp [intOf]; omega
          · have c1 : (s[k + 1].toNat : Int) ≤ (s[k].toNat : Int) := by
              have : ¬ s[k].toNat < s[k + 1].toNat := fun h => hc (UInt8.lt_iff_toNat_lt.2 h)
              omega
            clear hr hc
            go_wp2_with fail
            go_quiet (fail)
            go_wp2_with fail
            go_ret
            exact ⟨rfl, below_drewN (below_drewN HBZ.out _) _⟩
        · have hr2 : Pr.rises (bl s) = true := by
            rw [hr]
            have : ((bl s).drop k).length ≤ 1 := by rw [List.length_drop, bl_length]; omega
            match (bl s).drop k, this with
            | [], _ => rfl
            | [a], _ => rfl
            | a :: b :: r, h => simp at h
          have hge : (s.size : Int) ≤ (k : Int) + 1 := by omega
          by_cases hs0 : bl s = []
          · have hz : s.toList.isEmpty = true := by rw [toList_eq, hs0]; rfl
            have hz2 : (s.toList == (⟨#[]⟩ : ByteArray).toList) = true := by
              rw [show (⟨#[]⟩ : ByteArray) = str [] from rfl, str_beq, hs0]; rfl
            clear hr hr2 hs0
            go_wp2_with fail
            go_ret
            exact ⟨rfl, below_drewN HBZ.out _⟩
          · have hz : s.toList.isEmpty = false := by
              rw [toList_eq]
              cases hbs : bl s with
              | nil => exact absurd hbs hs0
              | cons a r => rfl
            have hz2 : (s.toList == (⟨#[]⟩ : ByteArray).toList) = false := by
              rw [show (⟨#[]⟩ : ByteArray) = str [] from rfl, str_beq]
              simpa using hs0
            have hok : Pr.patOk ⟨[], bl s, many⟩ = true := by
              unfold Pr.patOk; rw [if_pos rfl]; simp only [Bool.and_eq_true, bne_iff_ne]; exact ⟨hs0, hr2⟩
            obtain ⟨MS, hm1, hm2, hm3⟩ := lex_pattern hok
            have HPAT := Lib.hid (show ∀ w, Calls Tryd.prog 14 #[.agg #[.string ⟨#[]⟩, .string s, .bool many]] w fun e w' => e = .returned (.string (str (Pr.pattern ⟨[], bl s, many⟩))) ∧ Below w.heap.size w w' from fun w => pattern7_any ⟨[], bl s, many⟩ w (by simp) (by rw [bl_length]; omega))
            have hpl := Pr.pattern_len hok
            obtain ⟨Q, hQ⟩ : ∃ Q, str (Pr.pattern ⟨[], bl s, many⟩) = Q := ⟨_, rfl⟩
            have hQs : Q.size ≤ 9223372036854775807 := by rw [← bl_length, ← hQ, bl_str]; omega
            have hbQ : Pr.pattern ⟨[], bl s, many⟩ = bl Q := by rw [← hQ, bl_str]
            rw [hQ] at HPAT
            rw [hbQ] at hm1 hm3
            have HM1 := Lib.hid hm1
            have HM3 := Lib.hid hm3
            have HM2 := Lib.hid hm2
            clear hr hr2 hs0 hok hm1 hm2 hm3 hpl hQ hbQ
            go_wp2_with fail
            refine (HPAT.out _).mono ?_
            rintro e w5 ⟨rfl, hb5⟩
            have HB5 := Lib.hid ((below_drewN HBZ.out m).trans (hb5.mono (by simpa using hsz)))
            have HT5 := Lib.hid ((HTZ.out.drewN m).below hb5 (by simp; omega))
            have hs5 := HB5.out.size
            clear hb5
            go_wp2_with fail
            refine (lex_is Q MS (0, 0, 0) w5 hQs HT5.out (by omega) HM1.out HM3.out).mono ?_
            rintro e w6 ⟨⟨A6, cap6, rfl, hmm⟩, hb6⟩
            have HB6 := Lib.hid (HB5.out.trans (hb6.mono hs5))
            have hs6 := HB6.out.size
            have HMM := Lib.hid (hmm.below ((Below.refl _ _).alloc (Nat.le_refl _) (.cells #[.int .i64 0, .int .i64 0, .int .i64 0] 40)))
            have HB7 := Lib.hid (HB6.out.alloc hs6 (.cells #[.int .i64 0, .int .i64 0, .int .i64 0] 40))
            clear hmm hb6
            cases many with
            | true =>
              obtain ⟨m0, m1, m2, rfl, k0, k1⟩ : ∃ m0 m1 m2, MS = [m0, m1, m2] ∧ (m0.kind = 4 ∧ m0.text = bl s) ∧ m1.kind = 5 := by
                have h := HM2.out
                rw [show Pr.patE ⟨[], bl s, true⟩ ++ [Pr.em 0 []] = [Pr.em 4 (bl s), Pr.em 5 [], Pr.em 0 []] from rfl] at h
                obtain ⟨a, b, c, rfl, e1, e2⟩ := er_three h
                exact ⟨a, b, c, rfl, er_mk e1, (er_mk e2).1⟩
              simp only [List.length_cons, List.length_nil, diagV]
              obtain ⟨b1, hA, q4, c11, c12, _, _⟩ := HMM.out.cell (i := 0) (by simp)
              subst hA
              obtain ⟨b1', hA, q4', c21, _, _, _⟩ := HMM.out.cell (i := 1) (by simp)
              obtain rfl : b1 = b1' := by injection hA with h; injection h
              have d11 : (w6.alloc (.cells #[.int .i64 0, .int .i64 0, .int .i64 0] 40)).cell? ⟨b1, 0, none⟩ = some (.int .i64 4) := by have h : _ = some (Value.int .i64 (m0.kind : Int)) := c11; rw [k0.1] at h; exact h
              have d12 : (w6.alloc (.cells #[.int .i64 0, .int .i64 0, .int .i64 0] 40)).cell? ⟨b1, 1, none⟩ = some (.string s) := by
                have h : _ = some (Value.string (str m0.text)) := c12
                rw [k0.2, str_bl] at h
                exact h
              have d21 : (w6.alloc (.cells #[.int .i64 0, .int .i64 0, .int .i64 0] 40)).cell? ⟨b1, 4, none⟩ = some (.int .i64 5) := by have h : _ = some (Value.int .i64 (m1.kind : Int)) := c21; rw [k1] at h; exact h
              have t1 : (s.toList == s.toList) = true := by simp
              have t2 : (s.toList != s.toList) = false := by simp
              clear c11 c12 c21
              go_wp2_with fail
              go_ret
              exact ⟨rfl, HB7.out⟩
            | false =>
              obtain ⟨m0, m1, rfl, k0⟩ : ∃ m0 m1, MS = [m0, m1] ∧ (m0.kind = 4 ∧ m0.text = bl s) := by
                have h := HM2.out
                rw [show Pr.patE ⟨[], bl s, false⟩ ++ [Pr.em 0 []] = [Pr.em 4 (bl s), Pr.em 0 []] from rfl] at h
                obtain ⟨a, b, rfl, e1⟩ := er_two h
                exact ⟨a, b, rfl, er_mk e1⟩
              simp only [List.length_cons, List.length_nil, diagV]
              obtain ⟨b1, hA, q4, c11, c12, _, _⟩ := HMM.out.cell (i := 0) (by simp)
              subst hA
              have d11 : (w6.alloc (.cells #[.int .i64 0, .int .i64 0, .int .i64 0] 40)).cell? ⟨b1, 0, none⟩ = some (.int .i64 4) := by have h : _ = some (Value.int .i64 (m0.kind : Int)) := c11; rw [k0.1] at h; exact h
              have d12 : (w6.alloc (.cells #[.int .i64 0, .int .i64 0, .int .i64 0] 40)).cell? ⟨b1, 1, none⟩ = some (.string s) := by
                have h : _ = some (Value.string (str m0.text)) := c12
                rw [k0.2, str_bl] at h
                exact h
              have t1 : (s.toList == s.toList) = true := by simp
              have t2 : (s.toList != s.toList) = false := by simp
              clear c11 c12
              go_wp2_with fail
              go_ret
              exact ⟨rfl, HB7.out⟩
    · go_enter Tryd.func5, Tryd.ntmps5
      go_wp2_with fail
      refine (awake7_any _ HT.out h0).mono ?_
      rintro e w1 ⟨rfl, hb1⟩
      have HB1 := Lib.hid hb1
      have HT1 := Lib.hid (HT.out.below hb1 h0)
      have hs1 := hb1.size
      clear hb1
      go_wp2_with fail
      -- w1: the world, HT1.out: its Tab, HB1.out: Below W.heap.size W of it
      obtain ⟨wz, hwz⟩ : ∃ wz, wz = w1 := ⟨_, rfl⟩
      have HTZ := Lib.hid (show Tab wz by rw [hwz]; exact HT1.out)
      have HBZ := Lib.hid (show Below W.heap.size W wz by rw [hwz]; exact HB1.out)
      have hsz := HBZ.out.size
      rw [← hwz]
      clear hwz
      go_loopw [10] (fun i wr => ∃ (k m : Nat), (k + 1 ≤ s.size ∨ k = 0) ∧ i = .int .i64 ((k : Int) + 1) ∧ wr = wz.drewN m ∧ Pr.rises (bl s) = Pr.rises ((bl s).drop k)) (fun i _ => s.size + 1 - (intOf i).toNat)
      case atStart => exact ⟨0, 0, .inr rfl, rfl, rfl, rfl⟩
      case round =>
        obtain ⟨k, m, hk, rfl, rfl, hr⟩ := hrel
        by_cases hlt : k + 1 < s.size
        · have h0' : k < s.size := by omega
          have hd := bl_drop s k h0'
          rw [bl_drop s (k + 1) hlt] at hd
          rw [hd] at hr
          have hki : (k : Int) + 1 < (s.size : Int) := by omega
          have hki2 : (k : Int) < (s.size : Int) := by omega
          have hk0 : (0 : Int) ≤ (k : Int) := by omega
          have hk1 : (0 : Int) ≤ (k : Int) + 1 := by omega
          have HD := Lib.hid (bl_drop s (k + 1) hlt)
          clear hd
          by_cases hc : s[k] < s[k + 1]
          · have c1 : ¬ ((s[k + 1].toNat : Int) ≤ (s[k].toNat : Int)) := by have := UInt8.lt_iff_toNat_lt.1 hc; omega
            have hr2 : Pr.rises (bl s) = Pr.rises ((bl s).drop (k + 1)) := by
              rw [hr, HD.out, Pr.rises]; simp [hc]
            have HR := Lib.hid hr2
            clear hr hr2 hc
            go_wp2_with fail
            go_quiet (fail)
            go_wp2_with fail
            go_roundw
            case rel => exact ⟨k + 1, _, Or.inl (by omega), by go_num, rfl, HR.out⟩
            case measure => simp [intOf]; omega
          · have c1 : (s[k + 1].toNat : Int) ≤ (s[k].toNat : Int) := by
              have : ¬ s[k].toNat < s[k + 1].toNat := fun h => hc (UInt8.lt_iff_toNat_lt.2 h)
              omega
            clear hr hc
            go_wp2_with fail
            go_quiet (fail)
            go_wp2_with fail
            go_ret
            exact ⟨rfl, below_drewN (below_drewN HBZ.out _) _⟩
        · have hr2 : Pr.rises (bl s) = true := by
            rw [hr]
            have : ((bl s).drop k).length ≤ 1 := by rw [List.length_drop, bl_length]; omega
            match (bl s).drop k, this with
            | [], _ => rfl
            | [a], _ => rfl
            | a :: b :: r, h => simp at h
          have hge : (s.size : Int) ≤ (k : Int) + 1 := by omega
          by_cases hs0 : bl s = []
          · have hz : s.toList.isEmpty = true := by rw [toList_eq, hs0]; rfl
            have hz2 : (s.toList == (⟨#[]⟩ : ByteArray).toList) = true := by
              rw [show (⟨#[]⟩ : ByteArray) = str [] from rfl, str_beq, hs0]; rfl
            clear hr hr2 hs0
            go_wp2_with fail
            go_ret
            exact ⟨rfl, below_drewN HBZ.out _⟩
          · have hz : s.toList.isEmpty = false := by
              rw [toList_eq]
              cases hbs : bl s with
              | nil => exact absurd hbs hs0
              | cons a r => rfl
            have hz2 : (s.toList == (⟨#[]⟩ : ByteArray).toList) = false := by
              rw [show (⟨#[]⟩ : ByteArray) = str [] from rfl, str_beq]
              simpa using hs0
            have hok : Pr.patOk ⟨[], bl s, many⟩ = true := by
              unfold Pr.patOk; rw [if_pos rfl]; simp only [Bool.and_eq_true, bne_iff_ne]; exact ⟨hs0, hr2⟩
            obtain ⟨MS, hm1, hm2, hm3⟩ := lex_pattern hok
            have HPAT := Lib.hid (show ∀ w, Calls Tryd.prog 14 #[.agg #[.string ⟨#[]⟩, .string s, .bool many]] w fun e w' => e = .returned (.string (str (Pr.pattern ⟨[], bl s, many⟩))) ∧ Below w.heap.size w w' from fun w => pattern7_any ⟨[], bl s, many⟩ w (by simp) (by rw [bl_length]; omega))
            have hpl := Pr.pattern_len hok
            obtain ⟨Q, hQ⟩ : ∃ Q, str (Pr.pattern ⟨[], bl s, many⟩) = Q := ⟨_, rfl⟩
            have hQs : Q.size ≤ 9223372036854775807 := by rw [← bl_length, ← hQ, bl_str]; omega
            have hbQ : Pr.pattern ⟨[], bl s, many⟩ = bl Q := by rw [← hQ, bl_str]
            rw [hQ] at HPAT
            rw [hbQ] at hm1 hm3
            have HM1 := Lib.hid hm1
            have HM3 := Lib.hid hm3
            have HM2 := Lib.hid hm2
            clear hr hr2 hs0 hok hm1 hm2 hm3 hpl hQ hbQ
            go_wp2_with fail
            refine (HPAT.out _).mono ?_
            rintro e w5 ⟨rfl, hb5⟩
            have HB5 := Lib.hid ((below_drewN HBZ.out m).trans (hb5.mono (by simpa using hsz)))
            have HT5 := Lib.hid ((HTZ.out.drewN m).below hb5 (by simp; omega))
            have hs5 := HB5.out.size
            clear hb5
            go_wp2_with fail
            refine (lex_is Q MS (0, 0, 0) w5 hQs HT5.out (by omega) HM1.out HM3.out).mono ?_
            rintro e w6 ⟨⟨A6, cap6, rfl, hmm⟩, hb6⟩
            have HB6 := Lib.hid (HB5.out.trans (hb6.mono hs5))
            have hs6 := HB6.out.size
            have HMM := Lib.hid (hmm.below ((Below.refl _ _).alloc (Nat.le_refl _) (.cells #[.int .i64 0, .int .i64 0, .int .i64 0] 40)))
            have HB7 := Lib.hid (HB6.out.alloc hs6 (.cells #[.int .i64 0, .int .i64 0, .int .i64 0] 40))
            clear hmm hb6
            cases many with
            | true =>
              obtain ⟨m0, m1, m2, rfl, k0, k1⟩ : ∃ m0 m1 m2, MS = [m0, m1, m2] ∧ (m0.kind = 4 ∧ m0.text = bl s) ∧ m1.kind = 5 := by
                have h := HM2.out
                rw [show Pr.patE ⟨[], bl s, true⟩ ++ [Pr.em 0 []] = [Pr.em 4 (bl s), Pr.em 5 [], Pr.em 0 []] from rfl] at h
                obtain ⟨a, b, c, rfl, e1, e2⟩ := er_three h
                exact ⟨a, b, c, rfl, er_mk e1, (er_mk e2).1⟩
              simp only [List.length_cons, List.length_nil, diagV]
              obtain ⟨b1, hA, q4, c11, c12, _, _⟩ := HMM.out.cell (i := 0) (by simp)
              subst hA
              obtain ⟨b1', hA, q4', c21, _, _, _⟩ := HMM.out.cell (i := 1) (by simp)
              obtain rfl : b1 = b1' := by injection hA with h; injection h
              have d11 : (w6.alloc (.cells #[.int .i64 0, .int .i64 0, .int .i64 0] 40)).cell? ⟨b1, 0, none⟩ = some (.int .i64 4) := by have h : _ = some (Value.int .i64 (m0.kind : Int)) := c11; rw [k0.1] at h; exact h
              have d12 : (w6.alloc (.cells #[.int .i64 0, .int .i64 0, .int .i64 0] 40)).cell? ⟨b1, 1, none⟩ = some (.string s) := by
                have h : _ = some (Value.string (str m0.text)) := c12
                rw [k0.2, str_bl] at h
                exact h
              have d21 : (w6.alloc (.cells #[.int .i64 0, .int .i64 0, .int .i64 0] 40)).cell? ⟨b1, 4, none⟩ = some (.int .i64 5) := by have h : _ = some (Value.int .i64 (m1.kind : Int)) := c21; rw [k1] at h; exact h
              have t1 : (s.toList == s.toList) = true := by simp
              have t2 : (s.toList != s.toList) = false := by simp
              clear c11 c12 c21
              go_wp2_with fail
              go_ret
              exact ⟨rfl, HB7.out⟩
            | false =>
              obtain ⟨m0, m1, rfl, k0⟩ : ∃ m0 m1, MS = [m0, m1] ∧ (m0.kind = 4 ∧ m0.text = bl s) := by
                have h := HM2.out
                rw [show Pr.patE ⟨[], bl s, false⟩ ++ [Pr.em 0 []] = [Pr.em 4 (bl s), Pr.em 0 []] from rfl] at h
                obtain ⟨a, b, rfl, e1⟩ := er_two h
                exact ⟨a, b, rfl, er_mk e1⟩
              simp only [List.length_cons, List.length_nil, diagV]
              obtain ⟨b1, hA, q4, c11, c12, _, _⟩ := HMM.out.cell (i := 0) (by simp)
              subst hA
              have d11 : (w6.alloc (.cells #[.int .i64 0, .int .i64 0, .int .i64 0] 40)).cell? ⟨b1, 0, none⟩ = some (.int .i64 4) := by have h : _ = some (Value.int .i64 (m0.kind : Int)) := c11; rw [k0.1] at h; exact h
              have d12 : (w6.alloc (.cells #[.int .i64 0, .int .i64 0, .int .i64 0] 40)).cell? ⟨b1, 1, none⟩ = some (.string s) := by
                have h : _ = some (Value.string (str m0.text)) := c12
                rw [k0.2, str_bl] at h
                exact h
              have t1 : (s.toList == s.toList) = true := by simp
              have t2 : (s.toList != s.toList) = false := by simp
              clear c11 c12
              go_wp2_with fail
              go_ret
              exact ⟨rfl, HB7.out⟩

end Go.Proofs.YtgmihbfikggkjaaDoor

namespace Go.Proofs.YtgmihbfikggkjaaDoor
namespace Pr
open Lx (Mk M0 Step isName isLetter isSmall)
open Rd (Name Pat Tok Lev Rule G Decls Res)
set_option linter.unusedVariables false
set_option linter.unusedSimpArgs false

/-! ## Marks -/
/-- What a mark's text is like, by its kind. -/
def MkOk (k : Nat) (t : List UInt8) : Prop := (k = 1 → nameOk t = true) ∧ (k = 3 → t ≠ [] ∧ t.length ≤ 32) ∧ (k = 4 → t ≠ [] ∧ rises t = true) ∧ (k = 9 → actOk t = true)
theorem text_ok (l told : List UInt8) (i : Nat) {k n : Nat} {t : List UInt8} (h : Lx.text l told i = .mark k t n) : k = 3 ∧ t ≠ [] ∧ t.length ≤ 32 := by
  fun_induction Lx.text l told i
  all_goals first
    | (cases h; done)
    | (rename_i ih; exact ih h)
    | (rename_i h1 h2; cases h; exact ⟨rfl, h1, by omega⟩)
theorem rises_range (n : Nat) : ∀ a, a + n ≤ 256 → ∀ F : Nat → Bool, rises (((List.range' a n).filter F).map UInt8.ofNat) = true ∧ ∀ x ∈ ((List.range' a n).filter F).map UInt8.ofNat, a ≤ x.toNat := by
  induction n with
  | zero => intro a _ F; exact ⟨rfl, by simp⟩
  | succ n ih =>
    intro a ha F
    obtain ⟨h1, h2⟩ := ih (a + 1) (by omega) F
    rw [List.range'_succ]
    by_cases hF : F a = true
    · rw [List.filter_cons_of_pos hF, List.map_cons]
      have ht : (UInt8.ofNat a).toNat = a := by simp; omega
      refine ⟨?_, fun x hx => ?_⟩
      · generalize hl : ((List.range' (a + 1) n).filter F).map UInt8.ofNat = l at h1 h2
        cases l with
        | nil => rfl
        | cons b r =>
          unfold rises
          have := h2 b (by simp)
          rw [Bool.and_eq_true, decide_eq_true_eq]
          exact ⟨UInt8.lt_iff_toNat_lt.2 (by omega), h1⟩
      · rcases List.mem_cons.1 hx with rfl | hx
        · omega
        · have := h2 x hx; omega
    · rw [List.filter_cons_of_neg hF]
      exact ⟨h1, fun x hx => by have := h2 x hx; omega⟩
theorem rising_rises (F : Nat → Bool) : rises (Lx.rising F) = true := by
  unfold Lx.rising
  rw [List.range_eq_range']
  exact (rises_range 256 0 (by omega) F).1
theorem cls_ok (l : List UInt8) (i : Nat) (p : Lx.Parts) {k n : Nat} {t : List UInt8} (h : Lx.cls l i p = .mark k t n) : k = 4 ∧ t ≠ [] ∧ rises t = true := by
  fun_induction Lx.cls l i p
  all_goals first
    | (cases h; done)
    | (rename_i ih; exact ih h)
    | (rename_i h1 h2; cases h; exact ⟨rfl, h2, rising_rises _⟩)
theorem act_self (l acc : List UInt8) (o : Nat) {k n : Nat} {t : List UInt8} (h : Lx.act l acc o = .mark k t n) : ∃ s, t = acc ++ s ∧ Lx.act (s ++ [125]) acc o = .mark k t n := by
  induction l generalizing acc o with
  | nil => simp [Lx.act] at h
  | cons c l ih =>
    rw [Lx.act.eq_def] at h
    simp only [] at h
    split at h
    · rename_i hc
      split at h
      · cases h
      · rename_i ho
        obtain ⟨s, h1, h2⟩ := ih _ _ h
        refine ⟨c :: s, by rw [h1]; simp, ?_⟩
        rw [List.cons_append, Lx.act.eq_def]
        simp only [if_pos hc, if_neg ho]
        exact h2
    · rename_i hc
      split at h
      · rename_i hd
        split at h
        · rename_i ho
          split at h
          · cases h
          · rename_i hl
            cases h
            refine ⟨[], by simp, ?_⟩
            rw [List.nil_append, Lx.act.eq_def]
            simp only [if_neg (show ¬ (125 : UInt8) = 123 by decide), if_true, if_pos ho, if_neg hl]
        · rename_i ho
          obtain ⟨s, h1, h2⟩ := ih _ _ h
          refine ⟨c :: s, by rw [h1]; simp, ?_⟩
          rw [List.cons_append, Lx.act.eq_def]
          simp only [if_neg hc, if_pos hd, if_neg ho]
          exact h2
      · rename_i hd
        obtain ⟨s, h1, h2⟩ := ih _ _ h
        refine ⟨c :: s, by rw [h1]; simp, ?_⟩
        rw [List.cons_append, Lx.act.eq_def]
        simp only [if_neg hc, if_neg hd]
        exact h2
theorem nameOf_ok {c : UInt8} {r : List UInt8} (hc : isLetter c = true) (h32 : ¬ 32 < (Lx.nameOf (c :: r)).length) : nameOk (Lx.nameOf (c :: r)) = true := by
  have e : ∀ (d : UInt8) (q : List UInt8), Lx.nameOf (d :: q) = if isLetter d then (d :: q).takeWhile isName else [] := fun _ _ => rfl
  have hn : isName c = true := by unfold isName; rw [hc]; rfl
  have e1 : Lx.nameOf (c :: r) = c :: r.takeWhile isName := by rw [e, if_pos hc, List.takeWhile_cons_of_pos hn]
  rw [e1] at h32 ⊢
  unfold nameOk
  simp only [Bool.and_eq_true, decide_eq_true_eq, bne_iff_ne, beq_iff_eq]
  refine ⟨by omega, by simp, ?_⟩
  rw [e, if_pos hc, List.takeWhile_cons_of_pos hn]
  congr 1
  have : ∀ l : List UInt8, (l.takeWhile isName).takeWhile isName = l.takeWhile isName := by
    intro l
    induction l with
    | nil => rfl
    | cons a l ih =>
      by_cases ha : isName a = true
      · rw [List.takeWhile_cons_of_pos ha, List.takeWhile_cons_of_pos ha, ih]
      · rw [List.takeWhile_cons_of_neg ha]; rfl
  exact this r
theorem word_kind2 (l : List UInt8) {k n : Nat} {t : List UInt8} (h : Lx.word l = .mark k t n) : k = 2 := by
  unfold Lx.word at h
  split at h
  · cases h; rfl
  · cases h
theorem step_ok (l : List UInt8) {k n : Nat} {t : List UInt8} (h : Lx.step l = .mark k t n) : MkOk k t := by
  cases l with
  | nil => simp [Lx.step] at h
  | cons c r =>
    rw [Lx.step.eq_def] at h
    simp only [] at h
    split at h
    · cases h
    · split at h
      · cases h
      · split at h
        · rename_i hc
          split at h
          · cases h
          · rename_i h32
            cases h
            exact ⟨fun _ => nameOf_ok hc h32, fun e => by omega, fun e => by omega, fun e => by omega⟩
        · split at h
          · have := word_kind2 _ h
            subst this
            exact ⟨fun e => by omega, fun e => by omega, fun e => by omega, fun e => by omega⟩
          · split at h
            · obtain ⟨rfl, h1, h2⟩ := text_ok _ _ _ h
              exact ⟨fun e => by omega, fun _ => ⟨h1, h2⟩, fun e => by omega, fun e => by omega⟩
            · split at h
              · obtain ⟨rfl, h1, h2⟩ := cls_ok _ _ _ h
                exact ⟨fun e => by omega, fun e => by omega, fun _ => ⟨h1, h2⟩, fun e => by omega⟩
              · split at h
                · obtain ⟨rfl, hn, _⟩ := act_mark _ _ _ h
                  obtain ⟨s, h1, h2⟩ := act_self _ _ _ h
                  simp only [List.nil_append] at h1
                  subst h1
                  refine ⟨fun e => by omega, fun e => by omega, fun e => by omega, fun _ => ?_⟩
                  unfold actOk
                  rw [beq_iff_eq, h2, hn]
                · split at h
                  · cases h; exact ⟨fun e => by omega, fun e => by omega, fun e => by omega, fun e => by omega⟩
                  · split at h
                    · cases h; exact ⟨fun e => by omega, fun e => by omega, fun e => by omega, fun e => by omega⟩
                    · split at h
                      · cases h; exact ⟨fun e => by omega, fun e => by omega, fun e => by omega, fun e => by omega⟩
                      · split at h
                        · cases h; exact ⟨fun e => by omega, fun e => by omega, fun e => by omega, fun e => by omega⟩
                        · cases h
theorem run_ok : ∀ (f : Nat) (l : List UInt8) (i : Nat) (acc ms : List M0), (∀ m ∈ acc, MkOk m.1 m.2.1) → Lx.run f l i acc = .ok ms → ∀ m ∈ ms, MkOk m.1 m.2.1 := by
  have h0 : MkOk 0 [] := ⟨fun e => by omega, fun e => by omega, fun e => by omega, fun e => by omega⟩
  intro f
  induction f with
  | zero => intro l i acc ms ha h; simp [Lx.run] at h; subst h; exact ha
  | succ f ih =>
    intro l i acc ms ha h
    rw [Lx.run] at h
    split at h
    · cases h
      intro m hm
      rcases List.mem_append.1 hm with hm | hm
      · exact ha m hm
      · simp at hm; subst hm; exact h0
    · split at h
      · exact ih _ _ _ _ ha h
      · rename_i hs
        refine ih _ _ _ _ (fun m hm => ?_) h
        rcases List.mem_append.1 hm with hm | hm
        · exact ha m hm
        · simp at hm; subst hm; exact step_ok _ hs
      · cases h
def Mx (ms : List Mk) : Prop := ∀ m ∈ ms, MkOk m.kind m.text
theorem Mx.hd {ms : List Mk} (h : Mx ms) : MkOk (Rd.hd ms).kind (Rd.hd ms).text := by
  cases ms with
  | nil => exact ⟨fun e => by simp [Rd.hd_nil] at e, fun e => by simp [Rd.hd_nil] at e, fun e => by simp [Rd.hd_nil] at e, fun e => by simp [Rd.hd_nil] at e⟩
  | cons m r => exact h m (by simp)
theorem Mx.tail {ms : List Mk} (h : Mx ms) : Mx ms.tail := fun m hm => h m (List.mem_of_mem_tail hm)
theorem Mx.sf {ms r : List Mk} (h : Mx ms) (k : Rd.Sf ms r) : Mx r := fun m hm => h m (k.suf.subset hm)
theorem lex_mx {l : List UInt8} {ms : List M0} (h : Lx.lex l = .ok ms) : Mx (ms.map (Lx.mkOf l)) := by
  unfold Lx.lex at h
  split at h
  · cases h
  · intro m hm
    obtain ⟨x, hx, rfl⟩ := List.mem_map.1 hm
    exact run_ok _ _ _ _ _ (by simp) h x hx

/-! ## What is read of them -/
theorem pattern_good {ms r : List Mk} {p : Pat} (h : Mx ms) (he : Rd.pattern ms = .ok p r) : patOk p = true := by
  unfold Rd.pattern at he
  split at he
  · rename_i h3
    cases he
    obtain ⟨h1, h2⟩ := h.hd.2.1 h3
    unfold patOk
    rw [if_neg h1]
    simp [h2]
  · split at he
    · rename_i h4
      obtain ⟨h1, h2⟩ := h.hd.2.2.1 h4
      split at he <;> cases he <;> (unfold patOk; simp [h1, h2])
    · cases he
structure DGood (d : Decls) : Prop where
  toks : ∀ t ∈ d.toks, tokOk t = true
  skips : ∀ p ∈ d.skips, patOk p = true
  lev : ∀ v ∈ d.levels, v.names.all nameOk = true
  start : d.started = true → nameOk d.start = true
theorem token_good {d d' : Decls} {ms r : List Mk} (h : DGood d) (hm : Mx ms) (he : Rd.token d ms = .ok d' r) : DGood d' := by
  unfold Rd.token at he
  split at he
  · cases he
  · rename_i h1
    split at he
    · cases he
    · split at he
      · cases he
      · cases hp : Rd.pattern ms.tail.tail with
        | bad e r' => rw [hp] at he; cases he
        | ok p r' =>
          rw [hp] at he
          cases he
          refine ⟨fun t ht => ?_, h.skips, h.lev, h.start⟩
          rcases List.mem_append.1 ht with ht | ht
          · exact h.toks t ht
          · simp at ht
            subst ht
            unfold tokOk
            rw [Bool.and_eq_true]
            exact ⟨hm.tail.hd.1 (by simpa using h1), pattern_good hm.tail.tail hp⟩
theorem skip_good {d d' : Decls} {ms r : List Mk} (h : DGood d) (hm : Mx ms) (he : Rd.skip d ms = .ok d' r) : DGood d' := by
  unfold Rd.skip at he
  split at he
  · cases he
  · cases hp : Rd.pattern ms.tail with
    | bad e r' => rw [hp] at he; cases he
    | ok p r' =>
      rw [hp] at he
      cases he
      refine ⟨h.toks, fun t ht => ?_, h.lev, h.start⟩
      rcases List.mem_append.1 ht with ht | ht
      · exact h.skips t ht
      · simp at ht; subst ht; exact pattern_good hm.tail hp
theorem names_good {lev : List Name} {ms : List Mk} {acc l : List Name} {r : List Mk} (hm : Mx ms) (ha : ∀ n ∈ acc, nameOk n = true) (he : Rd.names lev ms acc = .ok l r) : ∀ n ∈ l, nameOk n = true := by
  induction ms generalizing acc with
  | nil => simp [Rd.names] at he; rw [← he.1]; exact ha
  | cons m ms ih =>
    rw [Rd.names] at he
    split at he
    · rename_i h1
      split at he
      · cases he
      · refine ih (fun x hx => hm x (by simp [hx])) (fun n hn => ?_) he
        rcases List.mem_append.1 hn with hn | hn
        · exact ha n hn
        · simp at hn; subst hn; exact (hm m (by simp)).1 h1
    · cases he; exact ha
theorem level_good {a : Nat} {d d' : Decls} {ms r : List Mk} (h : DGood d) (hm : Mx ms) (he : Rd.level a d ms = .ok d' r) : DGood d' := by
  unfold Rd.level at he
  split at he
  · cases he
  · cases hn : Rd.names (Rd.levelled d) ms.tail [] with
    | bad e r' => rw [hn] at he; cases he
    | ok l r' =>
      rw [hn] at he
      simp only [] at he
      split at he
      · cases he
      · cases he
        refine ⟨h.toks, h.skips, fun v hv => ?_, h.start⟩
        rcases List.mem_append.1 hv with hv | hv
        · exact h.lev v hv
        · simp at hv
          subst hv
          rw [List.all_eq_true]
          exact names_good hm.tail (by simp) hn
theorem start_good {d d' : Decls} {ms r : List Mk} (h : DGood d) (hm : Mx ms) (he : Rd.start d ms = .ok d' r) : DGood d' := by
  unfold Rd.start at he
  split at he
  · cases he
  · split at he
    · rename_i h1
      cases he
      exact ⟨h.toks, h.skips, h.lev, fun _ => hm.tail.hd.1 h1⟩
    · cases he
theorem decl_good {d d' : Decls} {ms r : List Mk} (h : DGood d) (hm : Mx ms) (he : Rd.decl d ms = .ok d' r) : DGood d' := by
  unfold Rd.decl at he
  split at he
  · revert he
    generalize Rd.wordNo _ = k
    intro he
    match k, he with
    | 0, he => exact token_good h hm he
    | 1, he => exact skip_good h hm he
    | 2, he => exact level_good h hm he
    | 3, he => exact level_good h hm he
    | 4, he => exact level_good h hm he
    | 5, he => exact start_good h hm he
    | _ + 6, he => cases he
  · cases he
theorem decls_good {f : Nat} {d d' : Decls} {ms r : List Mk} (h : DGood d) (hm : Mx ms) (he : Rd.decls f d ms = .ok d' r) : DGood d' := by
  induction f generalizing d ms with
  | zero => unfold Rd.decls at he; cases he
  | succ f ih =>
    unfold Rd.decls at he
    split at he
    · cases he; exact h
    · have h1 := Rd.decl_sf d ms
      cases hd : Rd.decl d ms with
      | bad e r' => rw [hd] at he; cases he
      | ok d2 r' =>
        rw [hd] at he h1
        exact ih (decl_good h hm hd) (hm.sf h1) he
theorem rights_good {ms : List Mk} {acc l : List Name} {r : List Mk} (hm : Mx ms) (ha : ∀ n ∈ acc, nameOk n = true) (he : Rd.rights ms acc = .ok l r) : ∀ n ∈ l, nameOk n = true := by
  induction ms generalizing acc with
  | nil => simp [Rd.rights] at he; rw [← he.1]; exact ha
  | cons m ms ih =>
    rw [Rd.rights] at he
    split at he
    · rename_i h1
      split at he
      · cases he
      · refine ih (fun x hx => hm x (by simp [hx])) (fun n hn => ?_) he
        rcases List.mem_append.1 hn with hn | hn
        · exact ha n hn
        · simp at hn; subst hn; exact (hm m (by simp)).1 h1
    · cases he; exact ha
theorem prec_good {ms r : List Mk} {p : Name} (hm : Mx ms) (he : Rd.prec ms = .ok p r) : p = [] ∨ nameOk p = true := by
  unfold Rd.prec at he
  split at he
  · split at he
    · rename_i h1; cases he; exact .inr (hm.tail.hd.1 h1)
    · cases he
  · cases he; exact .inl rfl
theorem actOk_nil : actOk [] = true := by decide
theorem alt_good {left : Name} {n : Nat} {ms r : List Mk} {x : Rule} (hl : nameOk left = true) (hm : Mx ms) (he : Rd.alt left n ms = .ok x r) : ruleOk x = true := by
  have h8 := (Rd.alt_ok he).2.2
  unfold Rd.alt at he
  split at he
  · cases he
  · have s1 := Rd.rights_sf ms []
    cases hr : Rd.rights ms [] with
    | bad e r' => rw [hr] at he; cases he
    | ok l r' =>
      rw [hr] at he s1
      simp only [] at he
      have m1 : Mx r' := hm.sf s1
      have s2 := Rd.prec_sf r'
      have hln := rights_good hm (by simp) hr
      cases hp : Rd.prec r' with
      | bad e r2 => rw [hp] at he; cases he
      | ok p r2 =>
        rw [hp] at he s2
        simp only [] at he
        have m2 : Mx r2 := m1.sf s2
        have hpp := prec_good m1 hp
        unfold Rd.action at he
        unfold ruleOk
        simp only [Bool.and_eq_true, Bool.or_eq_true, decide_eq_true_eq, beq_iff_eq, List.all_eq_true]
        split at he
        · rename_i h9
          cases he
          exact ⟨hl, h8, hln, hpp, m2.hd.2.2.2 h9⟩
        · cases he
          exact ⟨hl, h8, hln, hpp, actOk_nil⟩
theorem alts_good {f : Nat} {left : Name} {acc rs : List Rule} {ms r : List Mk} (h : ∀ x ∈ acc, ruleOk x = true) (hl : nameOk left = true) (hm : Mx ms) (he : Rd.alts f left acc ms = .ok rs r) : ∀ x ∈ rs, ruleOk x = true := by
  induction f generalizing acc ms with
  | zero => unfold Rd.alts at he; cases he
  | succ f ih =>
    unfold Rd.alts at he
    have s1 := Rd.alt_sf left acc.length ms
    cases ha : Rd.alt left acc.length ms with
    | bad e r' => rw [ha] at he; cases he
    | ok x r' =>
      rw [ha] at he s1
      simp only [] at he
      have hx := alt_good hl hm ha
      have hn : ∀ y ∈ acc ++ [x], ruleOk y = true := fun y hy => by
        rcases List.mem_append.1 hy with hy | hy
        · exact h y hy
        · simp at hy; subst hy; exact hx
      split at he
      · cases he; exact hn
      · split at he
        · exact ih hn (show Mx r'.tail from Mx.tail (hm.sf s1)) he
        · cases he
theorem rule_good {acc rs : List Rule} {ms r : List Mk} (h : ∀ x ∈ acc, ruleOk x = true) (hm : Mx ms) (he : Rd.rule acc ms = .ok rs r) : ∀ x ∈ rs, ruleOk x = true := by
  unfold Rd.rule at he
  split at he
  · cases he
  · rename_i h1
    split at he
    · cases he
    · exact alts_good h (hm.hd.1 (by simpa using h1)) hm.tail.tail he
theorem rules_good {f : Nat} {acc rs : List Rule} {ms r : List Mk} (h : ∀ x ∈ acc, ruleOk x = true) (hm : Mx ms) (he : Rd.rules f acc ms = .ok rs r) : ∀ x ∈ rs, ruleOk x = true := by
  induction f generalizing acc ms with
  | zero => unfold Rd.rules at he; cases he
  | succ f ih =>
    unfold Rd.rules at he
    have s1 := Rd.rule_sf acc ms
    cases hd : Rd.rule acc ms with
    | bad e r' => rw [hd] at he; cases he
    | ok d' r' =>
      rw [hd] at he s1
      simp only [] at he
      split at he
      · cases he; exact rule_good h hm hd
      · exact ih (rule_good h hm hd) (hm.sf s1) he
/-- What is read can be read again. -/
theorem read_right {l : List UInt8} {P : Nat × Nat} (h : Rd.readD l = (0, P.1, P.2)) : Right (Rd.readG l) ∧ (lvl (Rd.readG l)).length ≤ 4001 := by
  obtain ⟨hok, hcount⟩ := Rd.read_good h
  refine ⟨?_, hcount⟩
  unfold Rd.readD at h
  unfold Rd.readG at hok ⊢
  cases hx : Lx.lex l with
  | bad c i =>
    rw [hx] at h
    simp only [] at h
    have := Lx.lex_at hx
    injection h with h _
    omega
  | ok ms =>
    rw [hx] at h hok
    simp only [] at h hok ⊢
    have hm := lex_mx hx
    generalize ms.map (Lx.mkOf l) = MS at h hm hok ⊢
    cases hp : Rd.parse MS with
    | bad e r =>
      rw [hp] at h
      have := Rd.parse_code hp
      simp only [Rd.Res.diag] at h
      injection h with h _
      exact absurd h this
    | ok g r =>
      rw [hp] at hok
      simp only [Rd.Res.grammar] at hok ⊢
      unfold Rd.parse at hp
      have s1 := Rd.decls_sf (MS.length + 1) Rd.none_ MS
      cases hd : Rd.decls (MS.length + 1) Rd.none_ MS with
      | bad e r' => rw [hd] at hp; cases hp
      | ok d r' =>
        rw [hd] at hp s1
        simp only [] at hp
        have hdg := decls_good (d := Rd.none_) ⟨by simp [Rd.none_], by simp [Rd.none_], by simp [Rd.none_], by simp [Rd.none_]⟩ hm hd
        cases hr : Rd.rules (r'.length + 1) [] r' with
        | bad e r2 => rw [hr] at hp; cases hp
        | ok rs r2 =>
          rw [hr] at hp
          cases hp
          have hrg := rules_good (by simp) (show Mx r' from hm.sf s1) hr
          refine ⟨hok.ntok, hok.nskip, hok.nlev, hok.rok.1, hok.rules, ?_, hdg.toks, hdg.skips, fun v hv => ?_, hrg, hok.toks, hok.lev⟩
          · show nameOk (Rd.startOf d rs) = true
            unfold Rd.startOf
            split
            · exact hdg.start ‹_›
            · obtain ⟨x, q, hq⟩ := List.exists_cons_of_ne_nil hok.rules
              have hq : rs = x :: q := hq
              rw [hq]
              have := hrg x (by rw [hq]; simp)
              unfold ruleOk at this
              rw [Bool.and_eq_true] at this
              exact this.1
          · obtain ⟨h1, h2, h3⟩ := hok.each v hv
            unfold levOk
            simp only [Bool.and_eq_true, decide_eq_true_eq, bne_iff_ne]
            exact ⟨⟨h2, h3⟩, h1, hdg.lev v hv⟩
end Pr
end Go.Proofs.YtgmihbfikggkjaaDoor

namespace Go.Proofs.YtgmihbfikggkjaaDoor
open Go.RowKit
open Lx
set_option linter.unusedVariables false
set_option linter.unusedSimpArgs false
set_option maxRecDepth 100000

theorem Right.sz {G : Rd.G} (h : Pr.Right G) (hN : (Pr.lvl G).length ≤ 10000) : Sz G := by
  refine ⟨by have := h.ntok; omega, by have := h.nskip; omega, by have := h.nlev; omega, by have := h.nrule; omega, fun t ht => ?_, fun p hp => ?_, fun v hv => ?_, by have := Pr.name_len h.start; omega, fun r hr => ?_⟩
  · have h1 := h.toks t ht
    unfold Pr.tokOk at h1
    rw [Bool.and_eq_true] at h1
    have h2 := Pr.name_len h1.1
    have h3 := h1.2
    unfold Pr.patOk at h3
    refine ⟨by omega, ?_, ?_⟩
    · by_cases h0 : t.pat.text = []
      · rw [h0]; simp
      · rw [if_neg h0] at h3; simp only [Bool.and_eq_true, decide_eq_true_eq] at h3; omega
    · by_cases h0 : t.pat.text = []
      · rw [if_pos h0] at h3; simp only [Bool.and_eq_true] at h3; have := Pr.rises_len h3.2; omega
      · rw [if_neg h0] at h3; simp only [Bool.and_eq_true, beq_iff_eq] at h3; rw [h3.2.1]; simp
  · have h3 := h.skips p hp
    unfold Pr.patOk at h3
    refine ⟨?_, ?_⟩
    · by_cases h0 : p.text = []
      · rw [h0]; simp
      · rw [if_neg h0] at h3; simp only [Bool.and_eq_true, decide_eq_true_eq] at h3; omega
    · by_cases h0 : p.text = []
      · rw [if_pos h0] at h3; simp only [Bool.and_eq_true] at h3; have := Pr.rises_len h3.2; omega
      · rw [if_neg h0] at h3; simp only [Bool.and_eq_true, beq_iff_eq] at h3; rw [h3.2.1]; simp
  · have h1 := h.levels v hv
    unfold Pr.levOk at h1
    simp only [Bool.and_eq_true, List.all_eq_true] at h1
    refine ⟨?_, fun n hn => by have := Pr.name_len (h1.2.2 n hn); omega⟩
    unfold Pr.lvl at hN
    obtain ⟨s1, s2, hs⟩ := List.append_of_mem hv
    rw [hs] at hN
    simp only [List.flatMap_append, List.flatMap_cons, List.length_append] at hN
    omega
  · have h1 := h.each r hr
    unfold Pr.ruleOk at h1
    simp only [Bool.and_eq_true, Bool.or_eq_true, decide_eq_true_eq, beq_iff_eq, List.all_eq_true] at h1
    obtain ⟨k1, k2, k3, k4, k5⟩ := h1
    refine ⟨by have := Pr.name_len k1; omega, ?_, by have := Pr.action_len k5; omega, by omega, fun n hn => by have := Pr.name_len (k3 n hn); omega⟩
    rcases k4 with h | h
    · rw [h]; simp
    · have := Pr.name_len h; omega
theorem Right.few {G : Rd.G} (h : Pr.Right G) (hN : (Pr.lvl G).length ≤ 10000) : (∀ v ∈ G.levels, v.names.length ≤ 1000000) ∧ (∀ r ∈ G.rules, r.right.length ≤ 1000000) := by
  refine ⟨fun v hv => ?_, fun r hr => ?_⟩
  · unfold Pr.lvl at hN
    obtain ⟨s1, s2, hs⟩ := List.append_of_mem hv
    rw [hs] at hN
    simp only [List.flatMap_append, List.flatMap_cons, List.length_append] at hN
    omega
  · have h1 := h.each r hr
    unfold Pr.ruleOk at h1
    simp only [Bool.and_eq_true, Bool.or_eq_true, decide_eq_true_eq, beq_iff_eq, List.all_eq_true] at h1
    obtain ⟨k1, k2, k3, k4, k5⟩ := h1
    omega
theorem Right.assoc {G : Rd.G} (h : Pr.Right G) : ∀ x ∈ G.levels, 1 ≤ x.assoc ∧ x.assoc ≤ 3 := fun x hx => by
  have h1 := h.levels x hx
  unfold Pr.levOk at h1
  simp only [Bool.and_eq_true, decide_eq_true_eq] at h1
  exact h1.1
theorem printV_right {G : Rd.G} (h : Pr.Right G) : printV G = if 4000 < (Pr.text G).length then .tuple #[.string (str []), .int .i64 12] else .tuple #[.string (str (Pr.text G)), .int .i64 0] := by
  unfold printV
  rw [if_pos ((Pr.rightB_iff G).2 h)]
/-- Print of what is read. -/
theorem print_read {v : Value} {G : Rd.G} {w : World} (h : GramIs w v G) (hr : Pr.Right G) (hN : (Pr.lvl G).length ≤ 4001) (w' : World) (hb : Below w.heap.size w w') (hT : Tab w) (h0 : 0 < w.heap.size) :
    Calls Tryd.prog 12 #[v] w' fun e w'' => e = .returned (printV G) ∧ Below w'.heap.size w' w'' :=
  print_any v G w.heap.size w' ((h.gramC (Right.assoc hr)).below hb) hb.size (Right.sz hr (by omega)) (hT.below hb h0) h0 (fun _ => by omega)

/-- What Canon answers. -/
def canonV (l : List UInt8) : Value :=
  if (Rd.readD l).1 ≠ 0 then .tuple #[.string (str []), diagV (Rd.readD l)]
  else if 4000 < (Pr.text (Rd.readG l)).length then .tuple #[.string (str []), diagV (12, 1, 1)] else .tuple #[.string (str (Pr.text (Rd.readG l))), diagV (0, 0, 0)]

theorem gram_form {w : World} {v : Value} {G : Rd.G} (h : GramIs w v G) : ∃ E1 m1 f1 E2 m2 f2 E3 m3 f3 st E4 m4 f4, v = .agg #[.slice E1 m1 f1, .slice E2 m2 f2, .slice E3 m3 f3, .string st, .slice E4 m4 f4] := by
  obtain ⟨tv, sv, lv, rv, hgv, ⟨E1, f1, rfl, _⟩, ⟨E2, f2, rfl, _⟩, ⟨E3, f3, pl3, rfl, _⟩, ⟨E4, f4, ql3, rfl, _⟩⟩ := h.ex
  exact ⟨_, _, _, _, _, _, _, _, _, _, _, _, _, hgv⟩
theorem diag_new (w : World) : At (w.alloc (.cells #[.int .i64 0, .int .i64 0, .int .i64 0] 40)) w.heap.size 40 #[.int .i64 0, .int .i64 0, .int .i64 0] := At.new _ _ _


end Go.Proofs.YtgmihbfikggkjaaDoor

namespace Go.Proofs.YtgmihbfikggkjaaDoor
open Go.RowKit Go.ChangeShapes Go.WideShapes Go.ChangeAt
open Lx
set_option linter.unusedVariables false
set_option linter.unusedSimpArgs false
set_option maxRecDepth 100000

theorem flat_inv {α : Type} (f : α → List Value) (n : Nat) (hf : ∀ x, (f x).length = n) : ∀ (l : List α) (j : Nat) (u : Value), (l.flatMap f)[j]? = some u → ∃ (i r : Nat) (q : α), l[i]? = some q ∧ r < n ∧ j = i * n + r ∧ (f q)[r]? = some u
  | [], j, u, h => by simp at h
  | s :: t, j, u, h => by
    rw [List.flatMap_cons] at h
    by_cases hj : j < n
    · rw [List.getElem?_append_left (by rw [hf]; exact hj)] at h
      exact ⟨0, j, s, rfl, hj, by omega, h⟩
    · rw [List.getElem?_append_right (by rw [hf]; omega), hf] at h
      obtain ⟨i, r, q, h1, h2, h3, h4⟩ := flat_inv f n hf t (j - n) u h
      exact ⟨i + 1, r, q, by simpa using h1, h2, by rw [Nat.add_mul]; omega, h4⟩
theorem flat_ones {α : Type} (f : α → Value) (l : List α) : l.flatMap (fun x => [f x]) = l.map f := by
  induction l with
  | nil => rfl
  | cons a r ih => simp [List.flatMap_cons, ih]
theorem list2 {α : Type} {l : List α} (h : l.length = 2) : ∃ a b, l = [a, b] := by
  match l, h with
  | [a, b], _ => exact ⟨a, b, rfl⟩
theorem list3 {α : Type} {l : List α} (h : l.length = 3) : ∃ a b c, l = [a, b, c] := by
  match l, h with
  | [a, b, c], _ => exact ⟨a, b, c, rfl⟩
theorem list4 {α : Type} {l : List α} (h : l.length = 4) : ∃ a b c d, l = [a, b, c, d] := by
  match l, h with
  | [a, b, c, d], _ => exact ⟨a, b, c, d, rfl⟩
theorem list5 {α : Type} {l : List α} (h : l.length = 5) : ∃ a b c d e, l = [a, b, c, d, e] := by
  match l, h with
  | [a, b, c, d, e], _ => exact ⟨a, b, c, d, e, rfl⟩

section
variable {H : Type} {enc : TypeId × Value → H} {W : World}

/-- What is met is no longer than a machine's memory. -/
def Fits (d : DataW H) (t : TypeId) : Prop := ∀ n ∈ d.weights Tryd.prog t, n ≤ reachBytes
theorem all_mem {e : TypeId} : ∀ {l : List (DataW H)} {d : DataW H}, d ∈ l → ∀ n ∈ d.weights Tryd.prog e, n ∈ DataW.weightsAll Tryd.prog e l
  | [], d, h, _, _ => by simp at h
  | a :: r, d, h, n, hn => by
    rw [DataW.weightsAll, List.mem_append]
    rcases List.mem_cons.1 h with h1 | h1
    · subst h1; exact .inl hn
    · exact .inr (all_mem h1 n hn)
theorem fits_agg {t : TypeId} {fs : Array Field} {ds : List (DataW H)} (ht : Tryd.prog.underlying t = some (.struct fs)) (hf : Fits (.agg ds) t) {j : Nat} {t' : TypeId} {d : DataW H} (h1 : (fs.toList.map (·.type))[j]? = some t') (h2 : ds[j]? = some d) : Fits d t' := fun n hn => by
  refine hf n ?_
  rw [DataW.weights, ht]
  exact DataW.weights_mem_each h1 h2 n hn

theorem str_read {k : Nat} {cs : List Value} {x : DataW H × List MemPlace} (h : DataW.trod enc Tryd.prog W 0 (fun _ => true) true k 9 cs = some x) (hf : Fits x.1 9) : ∃ n : Rd.Name, cs = [.string (str n)] ∧ n.length ≤ reachBytes := by
  obtain ⟨s, rfl, rfl, _⟩ := DataW.trod_string Tryd.underlying9 h
  refine ⟨bl s, by rw [str_bl], ?_⟩
  exact hf _ (by simp [DataW.weights, bl])

theorem cs1 : Tryd.prog.cellsOf 9 = 1 := by kernel_rfl
theorem cb1 : Tryd.prog.cellsOf 4 = 1 := by kernel_rfl
theorem ci1 : Tryd.prog.cellsOf 3 = 1 := by kernel_rfl
theorem cp3 : Tryd.prog.cellsOf 53 = 3 := by kernel_rfl
theorem ct4 : Tryd.prog.cellsOf 58 = 4 := by kernel_rfl
theorem cl2 : Tryd.prog.cellsOf 61 = 2 := by kernel_rfl
theorem cr4 : Tryd.prog.cellsOf 30 = 4 := by kernel_rfl
theorem cg5 : Tryd.prog.cellsOf 35 = 5 := by kernel_rfl
theorem cx1 : Tryd.prog.cellsOf 28 = 1 := by kernel_rfl
theorem cx2 : Tryd.prog.cellsOf 31 = 1 := by kernel_rfl
theorem cx3 : Tryd.prog.cellsOf 32 = 1 := by kernel_rfl
theorem cx4 : Tryd.prog.cellsOf 33 = 1 := by kernel_rfl
theorem cx5 : Tryd.prog.cellsOf 26 = 1 := by kernel_rfl

theorem slice_read {α : Type} (a0 : α) {t e : TypeId} {K : Nat} (f : α → List Value) (Q : α → Prop) (ht : Tryd.prog.underlying t = some (.slice e)) (ke : Tryd.prog.cellsOf e = K) (hK : 0 < K) (hby : 1 ≤ Tryd.prog.bytesOf e) (hlen : ∀ a, (f a).length = K)
    (hel : ∀ (k : Nat) (cs : List Value) (x : DataW H × List MemPlace), DataW.trod enc Tryd.prog W 0 (fun _ => true) true k e cs = some x → Fits x.1 e → ∃ a, cs = f a ∧ Q a)
    {k : Nat} {cs : List Value} {x : DataW H × List MemPlace} (h : DataW.trod enc Tryd.prog W 0 (fun _ => true) true k t cs = some x) (hf : Fits x.1 t) :
    ∃ A c, ∃ l : List α, cs = [.slice A l.length c] ∧ Cl W W.heap.size A (l.flatMap f) ∧ (∀ a ∈ l, Q a) ∧ l.length ≤ reachBytes := by
  rcases Go.Deep.open_slice ht h with ⟨rfl, _⟩ | ⟨a, len, cap, m, n, D, Pl, rfl, hb, hl, hm, hmm, rfl, hx⟩
  · exact ⟨none, 0, [], rfl, Cl.nil _ _ _, by simp, Nat.zero_le _⟩
  · have hlm : m = cap := by simpa using hmm
    have hfi : ∀ i, i < len → Fits (D i) e := fun i hi n hn => hf n (by
      rw [DataW.weights, ht]
      refine List.mem_cons_of_mem _ (List.mem_append_left _ (all_mem ?_ n hn))
      exact List.mem_map.2 ⟨i, List.mem_range.2 hi, rfl⟩)
    have hlr : len ≤ reachBytes := by
      have h1 := hf ((((List.range len).map D).length + ((List.range (m - len)).map fun j => D (len + j)).length) * Tryd.prog.bytesOf e) (by rw [DataW.weights, ht]; exact List.mem_cons_self)
      rw [List.length_map, List.length_range] at h1
      have h2 := Nat.le_mul_of_pos_right (len + ((List.range (m - len)).map fun j => D (len + j)).length) hby
      omega
    have hread : ∀ i, i < len → ∃ q : α, Q q ∧ ∀ j, j < K → W.cell? (a.add (i * K + j)) = (f q)[j]? := by
      intro i hi
      obtain ⟨cs', h1, h2⟩ := hx i (by omega)
      rw [ke] at h1
      obtain ⟨_, hlen', hcell⟩ := World.cells?_some h1
      obtain ⟨q, rfl, hq⟩ := hel _ _ _ h2 (hfi i hi)
      refine ⟨q, hq, fun j hj => ?_⟩
      have := hcell j hj
      rwa [Go.Deep.add_add] at this
    haveI : Inhabited α := ⟨a0⟩
    obtain ⟨Z, hZ⟩ := Go.Deep.choose_lt (α := α) hread
    refine ⟨some a, cap, (List.range len).map Z, by simp, ⟨fun hne => ?_⟩, fun q hq => ?_, by simpa using hlr⟩
    · have h0 : 0 < len := by
        rcases Nat.eq_zero_or_pos len with h | h
        · subst h; simp at hne
        · exact h
      have g0 := (hZ 0 h0).2 0 hK
      have hl0 : 0 < (f (Z 0)).length := by rw [hlen]; exact hK
      rw [List.getElem?_eq_getElem hl0] at g0
      obtain ⟨ab, ao, rfl, hlt⟩ := at_zero (a := a) (by simpa [Addr.add] using g0)
      refine ⟨ab, ao, rfl, hlt, fun j u hu => ?_⟩
      obtain ⟨i, r, q, h1, h2, rfl, h4⟩ := flat_inv f K hlen _ j u hu
      rw [List.getElem?_map] at h1
      cases hi : (List.range len)[i]? with
      | none => rw [hi] at h1; simp at h1
      | some i' =>
        rw [hi] at h1
        obtain ⟨hlt2, h5⟩ := List.getElem?_eq_some_iff.1 hi
        simp only [List.getElem_range] at h5
        subst h5
        simp only [Option.map_some, Option.some.injEq] at h1
        subst h1
        have g := (hZ i (by simpa using hlt2)).2 r h2
        rw [Go.WideShapes.add_plain, h4] at g
        exact g
    · obtain ⟨i, hi, rfl⟩ := List.mem_map.1 hq
      exact (hZ i (List.mem_range.1 hi)).1

theorem pat_read {k : Nat} {cs : List Value} {x : DataW H × List MemPlace} (h : DataW.trod enc Tryd.prog W 0 (fun _ => true) true k 53 cs = some x) (hf : Fits x.1 53) :
    ∃ p : Rd.Pat, cs = p.cells ∧ p.text.length ≤ reachBytes ∧ p.set.length ≤ reachBytes := by
  obtain ⟨y0, y1, y2, n, rfl, hl, h0, h1, h2⟩ := Go.Deep.trod_struct3 Tryd.underlying53 h
  rw [cp3] at hl
  obtain ⟨a, b, c, rfl⟩ := list3 hl
  have h0 : DataW.trod enc Tryd.prog W 0 (fun _ => true) true n 9 (([a, b, c].drop 0).take (Tryd.prog.cellsOf 9)) = some y0 := h0
  have h1 : DataW.trod enc Tryd.prog W 0 (fun _ => true) true n 9 (([a, b, c].drop 1).take (Tryd.prog.cellsOf 9)) = some y1 := h1
  have h2 : DataW.trod enc Tryd.prog W 0 (fun _ => true) true n 4 (([a, b, c].drop 2).take (Tryd.prog.cellsOf 4)) = some y2 := h2
  rw [cs1] at h0 h1
  rw [cb1] at h2
  obtain ⟨t0, e0, b0⟩ := str_read h0 (fits_agg Tryd.underlying53 hf (j := 0) rfl rfl)
  obtain ⟨t1, e1, b1⟩ := str_read h1 (fits_agg Tryd.underlying53 hf (j := 1) rfl rfl)
  obtain ⟨t2, e2, _⟩ := DataW.trod_bool Tryd.underlying4 h2
  simp only [List.drop_zero, List.drop_succ_cons, List.take_succ_cons, List.take_zero, List.cons.injEq, and_true] at e0 e1 e2
  subst e0 e1 e2
  exact ⟨⟨t0, t1, t2⟩, rfl, b0, b1⟩

theorem tok_read {k : Nat} {cs : List Value} {x : DataW H × List MemPlace} (h : DataW.trod enc Tryd.prog W 0 (fun _ => true) true k 58 cs = some x) (hf : Fits x.1 58) :
    ∃ t : Rd.Tok, cs = t.cells ∧ t.name.length ≤ reachBytes ∧ t.pat.text.length ≤ reachBytes ∧ t.pat.set.length ≤ reachBytes := by
  obtain ⟨y0, y1, n, rfl, hl, h0, h1⟩ := trod_struct2 Tryd.underlying58 h
  rw [ct4] at hl
  obtain ⟨a, b, c, d, rfl⟩ := list4 hl
  have h0 : DataW.trod enc Tryd.prog W 0 (fun _ => true) true n 9 (([a, b, c, d].drop 0).take (Tryd.prog.cellsOf 9)) = some y0 := h0
  have h1 : DataW.trod enc Tryd.prog W 0 (fun _ => true) true n 53 (([a, b, c, d].drop 1).take (Tryd.prog.cellsOf 53)) = some y1 := h1
  rw [cs1] at h0
  rw [cp3] at h1
  obtain ⟨t0, e0, b0⟩ := str_read h0 (fits_agg Tryd.underlying58 hf (j := 0) rfl rfl)
  obtain ⟨p, e1, b1, b2⟩ := pat_read h1 (fits_agg Tryd.underlying58 hf (j := 1) rfl rfl)
  simp only [Rd.Pat.cells, List.drop_zero, List.drop_succ_cons, List.take_succ_cons, List.take_zero, List.cons.injEq, and_true] at e0 e1
  obtain ⟨rfl, rfl, rfl⟩ := e1
  subst e0
  exact ⟨⟨t0, p⟩, rfl, b0, b1, b2⟩

theorem names_read {k : Nat} {cs : List Value} {x : DataW H × List MemPlace} (h : DataW.trod enc Tryd.prog W 0 (fun _ => true) true k 28 cs = some x) (hf : Fits x.1 28) :
    ∃ v, ∃ l : List Rd.Name, cs = [v] ∧ NmC W W.heap.size v l ∧ l.length ≤ reachBytes ∧ ∀ n ∈ l, n.length ≤ reachBytes := by
  obtain ⟨A, c, l, rfl, h1, h2, h3⟩ := slice_read (α := Rd.Name) [] (fun n => [.string (str n)]) (fun n => n.length ≤ reachBytes) Tryd.underlying28 cs1 (by decide) (Nat.le_of_ble_eq_true (by kernel_rfl)) (fun _ => rfl) (fun k cs x h hf => str_read h hf) h hf
  exact ⟨_, l, rfl, ⟨A, c, rfl, by rw [flat_ones] at h1; exact h1⟩, h3, h2⟩

/-- What is read of a level, a rule. -/
def LevOf (W : World) (p : Rd.Lev × Value × Int) : Prop := p.1.assoc = encA p.2.2 ∧ NmC W W.heap.size p.2.1 p.1.names ∧ p.1.names.length ≤ reachBytes ∧ ∀ n ∈ p.1.names, n.length ≤ reachBytes
def RuleOf (W : World) (p : Rd.Rule × Value) : Prop := NmC W W.heap.size p.2 p.1.right ∧ p.1.left.length ≤ reachBytes ∧ p.1.prec.length ≤ reachBytes ∧ p.1.action.length ≤ reachBytes ∧ p.1.right.length ≤ reachBytes ∧ ∀ n ∈ p.1.right, n.length ≤ reachBytes

theorem lev_read {k : Nat} {cs : List Value} {x : DataW H × List MemPlace} (h : DataW.trod enc Tryd.prog W 0 (fun _ => true) true k 61 cs = some x) (hf : Fits x.1 61) :
    ∃ p, cs = levC p ∧ LevOf W p := by
  obtain ⟨y0, y1, n, rfl, hl, h0, h1⟩ := trod_struct2 Tryd.underlying61 h
  rw [cl2] at hl
  obtain ⟨a, b, rfl⟩ := list2 hl
  have h0 : DataW.trod enc Tryd.prog W 0 (fun _ => true) true n 3 (([a, b].drop 0).take (Tryd.prog.cellsOf 3)) = some y0 := h0
  have h1 : DataW.trod enc Tryd.prog W 0 (fun _ => true) true n 28 (([a, b].drop 1).take (Tryd.prog.cellsOf 28)) = some y1 := h1
  rw [ci1] at h0
  rw [cx1] at h1
  obtain ⟨i, e0, _⟩ := DataW.trod_int Tryd.underlying3 h0
  obtain ⟨v, l, e1, k1, k2, k3⟩ := names_read h1 (fits_agg Tryd.underlying61 hf (j := 1) rfl rfl)
  simp only [List.drop_zero, List.drop_succ_cons, List.take_succ_cons, List.take_zero, List.cons.injEq, and_true] at e0 e1
  subst e0 e1
  exact ⟨(⟨encA i, l⟩, b, i), rfl, rfl, k1, k2, k3⟩

theorem rule_read {k : Nat} {cs : List Value} {x : DataW H × List MemPlace} (h : DataW.trod enc Tryd.prog W 0 (fun _ => true) true k 30 cs = some x) (hf : Fits x.1 30) :
    ∃ p, cs = ruleCells p ∧ RuleOf W p := by
  obtain ⟨xs, n, _, rfl, hl, hlen, hfs⟩ := DataW.trod_struct Tryd.underlying30 h
  rw [cr4] at hl
  obtain ⟨a, b, c, d, rfl⟩ := list4 hl
  obtain ⟨y0, y1, y2, y3, rfl⟩ := list4 hlen
  have h0 : DataW.trod enc Tryd.prog W 0 (fun _ => true) true n 9 (([a, b, c, d].drop 0).take (Tryd.prog.cellsOf 9)) = some y0 := hfs 0 _ rfl
  have h1 : DataW.trod enc Tryd.prog W 0 (fun _ => true) true n 28 (([a, b, c, d].drop 1).take (Tryd.prog.cellsOf 28)) = some y1 := hfs 1 _ rfl
  have h2 : DataW.trod enc Tryd.prog W 0 (fun _ => true) true n 9 (([a, b, c, d].drop 2).take (Tryd.prog.cellsOf 9)) = some y2 := hfs 2 _ rfl
  have h3 : DataW.trod enc Tryd.prog W 0 (fun _ => true) true n 9 (([a, b, c, d].drop 3).take (Tryd.prog.cellsOf 9)) = some y3 := hfs 3 _ rfl
  rw [cs1] at h0 h2 h3
  rw [cx1] at h1
  obtain ⟨t0, e0, b0⟩ := str_read h0 (fits_agg Tryd.underlying30 hf (j := 0) rfl rfl)
  obtain ⟨v, l, e1, k1, k2, k3⟩ := names_read h1 (fits_agg Tryd.underlying30 hf (j := 1) rfl rfl)
  obtain ⟨t2, e2, b2⟩ := str_read h2 (fits_agg Tryd.underlying30 hf (j := 2) rfl rfl)
  obtain ⟨t3, e3, b3⟩ := str_read h3 (fits_agg Tryd.underlying30 hf (j := 3) rfl rfl)
  simp only [List.drop_zero, List.drop_succ_cons, List.take_succ_cons, List.take_zero, List.cons.injEq, and_true] at e0 e1 e2 e3
  subst e0 e1 e2 e3
  exact ⟨(⟨t0, l, t2, t3⟩, b), rfl, k1, b0, b2, b3, k2, k3⟩

theorem open_gram {base : Nat} {v : Value} {d : DataW H} {p : List MemPlace} (hv : Value.okWide Tryd.prog W .any base 35 v) (h : DataW.Trod enc Tryd.prog W 0 (fun _ => true) true 35 v d p) (hf : Fits d 35) :
    ∃ G : Rd.G, GramC W W.heap.size v G ∧ Sz G := by
  obtain ⟨cs, rfl, hcs⟩ := okWide_struct Tryd.underlying35 hv
  obtain ⟨fuel, ht⟩ := h
  obtain ⟨xs, n, _, hx, hl, hlen, hfs⟩ := DataW.trod_struct Tryd.underlying35 ht
  simp only [Prod.mk.injEq] at hx
  obtain ⟨rfl, rfl⟩ := hx
  rw [cg5] at hl
  obtain ⟨a, b, c, d, e, hcv⟩ := list5 hl
  obtain ⟨y0, y1, y2, y3, y4, rfl⟩ := list5 hlen
  rw [hcv] at hfs
  have hce : cs = #[a, b, c, d, e] := by
    have : cs.toList = [a, b, c, d, e] := by simpa [Value.cells] using hcv
    exact Array.toList_inj.1 (by simpa using this)
  subst hce
  have h0 : DataW.trod enc Tryd.prog W 0 (fun _ => true) true n 31 (([a, b, c, d, e].drop 0).take (Tryd.prog.cellsOf 31)) = some y0 := hfs 0 _ rfl
  have h1 : DataW.trod enc Tryd.prog W 0 (fun _ => true) true n 32 (([a, b, c, d, e].drop 1).take (Tryd.prog.cellsOf 32)) = some y1 := hfs 1 _ rfl
  have h2 : DataW.trod enc Tryd.prog W 0 (fun _ => true) true n 33 (([a, b, c, d, e].drop 2).take (Tryd.prog.cellsOf 33)) = some y2 := hfs 2 _ rfl
  have h3 : DataW.trod enc Tryd.prog W 0 (fun _ => true) true n 9 (([a, b, c, d, e].drop 3).take (Tryd.prog.cellsOf 9)) = some y3 := hfs 3 _ rfl
  have h4 : DataW.trod enc Tryd.prog W 0 (fun _ => true) true n 26 (([a, b, c, d, e].drop 4).take (Tryd.prog.cellsOf 26)) = some y4 := hfs 4 _ rfl
  rw [cx2] at h0
  rw [cx3] at h1
  rw [cx4] at h2
  rw [cs1] at h3
  rw [cx5] at h4
  obtain ⟨A1, c1, l1, e1, k1, q1, n1⟩ := slice_read (α := Rd.Tok) ⟨[], ⟨[], [], false⟩⟩ Rd.Tok.cells (fun t => t.name.length ≤ reachBytes ∧ t.pat.text.length ≤ reachBytes ∧ t.pat.set.length ≤ reachBytes) Tryd.underlying31 ct4 (by decide) (Nat.le_of_ble_eq_true (by kernel_rfl)) (fun _ => rfl) (fun k cs x h hf => tok_read h hf) h0 (fits_agg Tryd.underlying35 hf (j := 0) rfl rfl)
  obtain ⟨A2, c2, l2, e2, k2, q2, n2⟩ := slice_read (α := Rd.Pat) ⟨[], [], false⟩ Rd.Pat.cells (fun p => p.text.length ≤ reachBytes ∧ p.set.length ≤ reachBytes) Tryd.underlying32 cp3 (by decide) (Nat.le_of_ble_eq_true (by kernel_rfl)) (fun _ => rfl) (fun k cs x h hf => pat_read h hf) h1 (fits_agg Tryd.underlying35 hf (j := 1) rfl rfl)
  obtain ⟨A3, c3, l3, e3, k3, q3, n3⟩ := slice_read (α := Rd.Lev × Value × Int) (⟨0, []⟩, .int .i64 0, 0) levC (LevOf W) Tryd.underlying33 cl2 (by decide) (Nat.le_of_ble_eq_true (by kernel_rfl)) (fun _ => rfl) (fun k cs x h hf => lev_read h hf) h2 (fits_agg Tryd.underlying35 hf (j := 2) rfl rfl)
  obtain ⟨t0, e0, b0⟩ := str_read h3 (fits_agg Tryd.underlying35 hf (j := 3) rfl rfl)
  obtain ⟨A4, c4, l4, e4, k4, q4, n4⟩ := slice_read (α := Rd.Rule × Value) (⟨[], [], [], []⟩, .int .i64 0) ruleCells (RuleOf W) Tryd.underlying26 cr4 (by decide) (Nat.le_of_ble_eq_true (by kernel_rfl)) (fun _ => rfl) (fun k cs x h hf => rule_read h hf) h4 (fits_agg Tryd.underlying35 hf (j := 4) rfl rfl)
  simp only [List.drop_zero, List.drop_succ_cons, List.take_succ_cons, List.take_zero, List.cons.injEq, and_true] at e0 e1 e2 e3 e4
  subst e0 e1 e2 e3 e4
  have hR : reachBytes ≤ 140737488355328 := by decide
  refine ⟨⟨l1, l2, l3.map (·.1), t0, l4.map (·.1)⟩, ⟨⟨A1, c1, A2, c2, A3, c3, A4, c4, l3, l4, by simp, k1, k2, k3, rfl, fun p hp => ⟨(q3 p hp).1, (q3 p hp).2.1⟩, k4, rfl, fun p hp => (q4 p hp).1⟩⟩, ?_⟩
  refine ⟨Nat.le_trans n1 hR, Nat.le_trans n2 hR, by simpa using Nat.le_trans n3 hR, by simpa using Nat.le_trans n4 hR, fun t ht => ?_, fun t ht => ?_, fun t ht => ?_, Nat.le_trans b0 hR, fun t ht => ?_⟩
  · obtain ⟨z1, z2, z3⟩ := q1 t ht
    exact ⟨Nat.le_trans z1 hR, Nat.le_trans z2 hR, Nat.le_trans z3 hR⟩
  · obtain ⟨z1, z2⟩ := q2 t ht
    exact ⟨Nat.le_trans z1 hR, Nat.le_trans z2 hR⟩
  · obtain ⟨p, hp, rfl⟩ := List.mem_map.1 ht
    obtain ⟨_, _, z1, z2⟩ := q3 p hp
    exact ⟨Nat.le_trans z1 hR, fun n hn => Nat.le_trans (z2 n hn) hR⟩
  · obtain ⟨p, hp, rfl⟩ := List.mem_map.1 ht
    obtain ⟨_, z1, z2, z3, z4, z5⟩ := q4 p hp
    exact ⟨Nat.le_trans z1 hR, Nat.le_trans z2 hR, Nat.le_trans z3 hR, Nat.le_trans z4 hR, fun n hn => Nat.le_trans (z5 n hn) hR⟩
end

end Go.Proofs.YtgmihbfikggkjaaDoor

namespace Go.Proofs.YtgmihbfikggkjaaDoor
open Go.RowKit
open Lx
set_option linter.unusedVariables false
set_option linter.unusedSimpArgs false
set_option maxRecDepth 100000

namespace Pr
open Rd (Name Pat Tok Lev Rule G)
def tokN (t : Tok) : Nat := t.name.length + t.pat.text.length + t.pat.set.length
def patN (p : Pat) : Nat := p.text.length + p.set.length
def namN (n : Name) : Nat := n.length + 1
def levN (v : Lev) : Nat := (v.names.map namN).sum
def rulN0 (r : Rule) : Nat := r.left.length + r.prec.length + r.action.length
def rulN (r : Rule) : Nat := rulN0 r + (r.right.map namN).sum
def pre {α : Type} (f : α → Nat) (l : List α) (k : Nat) : Nat := ((l.take k).map f).sum
theorem pre_zero {α : Type} (f : α → Nat) (l : List α) : pre f l 0 = 0 := by simp [pre]
theorem pre_succ {α : Type} (f : α → Nat) {l : List α} {k : Nat} {x : α} (h : l[k]? = some x) : pre f l (k + 1) = pre f l k + f x := by
  unfold pre; rw [List.take_add_one, h]; simp
theorem pre_all {α : Type} (f : α → Nat) (l : List α) : pre f l l.length = (l.map f).sum := by unfold pre; rw [List.take_length]
theorem pre_le {α : Type} (f : α → Nat) (l : List α) (k : Nat) : pre f l k ≤ (l.map f).sum := by
  have h : (l.map f).sum = pre f l k + ((l.drop k).map f).sum := by
    unfold pre
    rw [← List.sum_append, ← List.map_append, List.take_append_drop]
  omega
theorem mem_le {α : Type} (f : α → Nat) {l : List α} {x : α} (h : x ∈ l) : f x ≤ (l.map f).sum := by
  obtain ⟨s, t, rfl⟩ := List.append_of_mem h
  simp; omega
def cntN (g : G) : Nat := g.toks.length + g.skips.length + g.levels.length + g.rules.length
def total (g : G) : Nat := cntN g + (g.toks.map tokN).sum + (g.skips.map patN).sum + (g.levels.map levN).sum + (g.rules.map rulN).sum
def fewB (g : G) : Bool := decide (cntN g ≤ 60) && decide (total g ≤ 1500)
end Pr

/-- A bool, the given one where T holds. -/
structure FewIs (e : Ending) (T : Prop) (fb : Bool) : Prop where
  ex : ∃ b : Bool, e = .returned (.bool b) ∧ (T → b = fb)
theorem w64_in (n : Int) (h : -9223372036854775808 ≤ n ∧ n ≤ 9223372036854775807) : wrap64 n = n := by unfold wrap64; omega
theorem str_len (l : List UInt8) : (str l).size = l.length := by rw [← bl_length, bl_str]

set_option maxHeartbeats 4000000 in
theorem few_any (v : Value) (G : Rd.G) (B : Nat) (w : World) (h : GramC w B v G) (hB : B ≤ w.heap.size) (hs : Sz G) :
    Calls Tryd.prog 11 #[v] w fun e w' => FewIs e (Pr.total G < 4611686018427387904) (Pr.fewB G) ∧ Below w.heap.size w w' := by
  obtain ⟨A1, c1, A2, c2, A3, c3, A4, c4, pl, ql, rfl, k1, k2, k3, k4, k5, k6, k7, k8⟩ := h.ex
  have hplen : pl.length = G.levels.length := by rw [← k4, List.length_map]
  have hqlen : ql.length = G.rules.length := by rw [← k7, List.length_map]
  obtain ⟨T, hT⟩ : ∃ T : Prop, (Pr.total G < 4611686018427387904) = T := ⟨_, rfl⟩
  have HTT := Lib.hid (show T → Pr.total G < 4611686018427387904 from fun t => by rw [hT]; exact t)
  rw [hT]
  obtain ⟨fb, hfb⟩ : ∃ fb, Pr.fewB G = fb := ⟨_, rfl⟩
  have HFB := Lib.hid hfb
  rw [hfb]
  obtain ⟨a, ha⟩ : ∃ a, G.toks.length = a := ⟨_, rfl⟩
  obtain ⟨b, hb⟩ : ∃ b, G.skips.length = b := ⟨_, rfl⟩
  obtain ⟨c, hc⟩ : ∃ c, G.levels.length = c := ⟨_, rfl⟩
  obtain ⟨d, hd⟩ : ∃ d, G.rules.length = d := ⟨_, rfl⟩
  have s1 := hs.n1
  have s2 := hs.n2
  have s3 := hs.n3
  have s4 := hs.n4
  rw [ha] at s1 ⊢
  rw [hb] at s2 ⊢
  rw [hc] at s3 hplen ⊢
  rw [hd] at s4 hqlen ⊢
  have HCN := Lib.hid (show Pr.cntN G = a + b + c + d by unfold Pr.cntN; rw [ha, hb, hc, hd])
  obtain ⟨st, hst⟩ : ∃ st, str G.start = st := ⟨_, rfl⟩
  rw [hst]
  have HB0 := Lib.hid ((Below.refl w.heap.size w).alloc (Nat.le_refl _) (.cells #[.slice A1 a c1, .slice A2 b c2, .slice A3 c c3, .string st, .slice A4 d c4] 35))
  have HAT0 := Lib.hid (At.new w 35 #[.slice A1 a c1, .slice A2 b c2, .slice A3 c c3, .string st, .slice A4 d c4])
  by_cases hcnt : 60 < a + b + c + d
  · have hfalse : fb = false := by rw [← hfb]; unfold Pr.fewB; rw [HCN.out, decide_eq_false (by omega)]; rfl
    have hgt : (60 : Int) < (a : Int) + (b : Int) + (c : Int) + (d : Int) := by omega
    have HF := Lib.hid hfalse
    clear h hB hs k1 k2 k3 k4 k5 k6 k7 k8 hplen hqlen hT ha hb hc hd hst hcnt hfb hfalse
    go_enter Tryd.func11, Tryd.ntmps11
    go_wp2_with fail
    go_ret
    exact ⟨⟨⟨false, rfl, fun _ => HF.out.symm⟩⟩, HB0.out⟩
  have hcnt' : a + b + c + d ≤ 60 := by omega
  have hle : ¬ (60 : Int) < (a : Int) + (b : Int) + (c : Int) + (d : Int) := by omega
  have l1 : a ≤ 60 := by omega
  have l2 : b ≤ 60 := by omega
  have l3 : c ≤ 60 := by omega
  have l4 : d ≤ 60 := by omega
  have HHS := Lib.hid hs
  have HA := Lib.hid ha
  have HBb := Lib.hid hb
  have HC := Lib.hid hplen
  have HD := Lib.hid hqlen
  have HQ3 := Lib.hid k4
  have HQ4 := Lib.hid k7
  have HLE := Lib.hid hcnt'
  obtain ⟨W0, hW0⟩ : ∃ W0, w.alloc (.cells #[.slice A1 a c1, .slice A2 b c2, .slice A3 c c3, .string st, .slice A4 d c4] 35) = W0 := ⟨_, rfl⟩
  have HW0 := Lib.hid hW0
  rw [hW0] at HB0 HAT0
  have L1 := Lib.hid (k1.below (HB0.out.mono hB))
  have L2 := Lib.hid (k2.below (HB0.out.mono hB))
  have L3 := Lib.hid (k3.below (HB0.out.mono hB))
  have L4 := Lib.hid (k6.below (HB0.out.mono hB))
  have J3 := Lib.hid (show ∀ p ∈ pl, NmC W0 B p.2.1 p.1.names from fun p hp => (k5 p hp).2.below (HB0.out.mono hB))
  have J4 := Lib.hid (show ∀ p ∈ ql, NmC W0 B p.2 p.1.right from fun p hp => (k8 p hp).below (HB0.out.mono hB))
  obtain ⟨g, hg⟩ : ∃ g, w.heap.size = g := ⟨_, rfl⟩
  have HG := Lib.hid hg
  clear h hB hs k1 k2 k3 k4 k5 k6 k7 k8 hplen hqlen hT ha hb hc hd hst hcnt hcnt' hfb hW0 s1 s2 s3 s4
  go_enter Tryd.func11, Tryd.ntmps11
  go_wp2_with fail
  rw [HW0.out]
  try rw [hg]
  rw [hg] at HAT0
  have hgl := HAT0.out.lt
  clear hg hle
  go_loopw [3, 4] (fun n i wr => ∃ (k m : Nat) (z : Int), k ≤ a ∧ i = .int .i64 (k : Int) ∧ n = .int .i64 z ∧ (T → z = ((Pr.cntN G + Pr.pre Pr.tokN G.toks k : Nat) : Int)) ∧ wr = W0.drewN m) (fun _ i _ => a - (intOf i).toNat)
  case atStart => exact ⟨0, 0, _, by omega, rfl, rfl, fun _ => by rw [HCN.out, Pr.pre_zero]; omega, rfl⟩
  case round =>
    obtain ⟨k, m, z, hk, rfl, rfl, hz, rfl⟩ := hrel
    have HZ := Lib.hid hz
    clear hz
    have a1' := HAT0.out
    have x0 := a1'.cell 0
    have x1 := a1'.cell 1
    have x2 := a1'.cell 2
    have x4 := a1'.cell 4
    simp only [List.getElem?_toArray, List.getElem?_cons_zero, List.getElem?_cons_succ] at x0 x1 x2 x4
    clear a1'
    by_cases hlt : k < a
    · obtain ⟨x, hx⟩ := some_get (l := G.toks) (i := k) (by rw [HA.out]; exact hlt)
      have hv := fun j u (hj : j < 4) (hu : x.cells[j]? = some u) => flat_get Rd.Tok.cells 4 (fun _ => rfl) G.toks k j x u hx hj hu
      have hne : toksV G.toks ≠ [] := fun e => by
        have h : (toksV G.toks)[k * 4 + 0]? = some (.string (str x.name)) := hv 0 _ (by omega) rfl
        rw [e] at h; simp at h
      obtain ⟨b1, o1, hA, hb1, f1⟩ := L1.out.ex hne
      rw [hA] at x0
      have y0 : W0.cell? ⟨b1, o1 + k * 4, none⟩ = some (.string (str x.name)) := f1 _ _ (hv 0 _ (by omega) rfl)
      have y1 : W0.cell? ⟨b1, o1 + k * 4 + 1, none⟩ = some (.string (str x.pat.text)) := by rw [Nat.add_assoc]; exact f1 _ _ (hv 1 _ (by omega) rfl)
      have y2 : W0.cell? ⟨b1, o1 + k * 4 + 2, none⟩ = some (.string (str x.pat.set)) := by rw [Nat.add_assoc]; exact f1 _ _ (hv 2 _ (by omega) rfl)
      have q0 := str_len x.name
      have q1 := str_len x.pat.text
      have q2 := str_len x.pat.set
      have hb := HHS.out.tok x (List.mem_of_getElem? hx)
      have HP := Lib.hid (Pr.pre_succ Pr.tokN hx)
      have hle2 := Pr.pre_le Pr.tokN G.toks (k + 1)
      have htk : Pr.tokN x = x.name.length + x.pat.text.length + x.pat.set.length := rfl
      rw [← q0, ← q1, ← q2] at htk hb
      generalize str x.name = X0 at y0 htk hb
      generalize str x.pat.text = X1 at y1 htk hb
      generalize str x.pat.set = X2 at y2 htk hb
      have HTK := Lib.hid htk
      obtain ⟨g0, g1, g2⟩ := hb
      have HG0 := Lib.hid g0
      have HG1 := Lib.hid g1
      have HG2 := Lib.hid g2
      have HL := Lib.hid hle2
      clear hx hv hne f1 hA q0 q1 q2 htk hle2 g0 g1 g2
      have hki : (k : Int) < (a : Int) := by omega
      have hk0 : (0 : Int) ≤ (k : Int) := by omega
      go_wp2_with fail
      go_quiet (fail)
      go_wp2_with fail
      go_roundw
      case rel =>
        refine ⟨k + 1, _, _, by omega, by go_num, rfl, fun ht => ?_, rfl⟩
        have h1 := HZ.out ht
        have h2 := HTT.out ht
        have h3 := HP.out
        have h4 := HTK.out
        have h5 := HL.out
        have h6 : Pr.cntN G + (G.toks.map Pr.tokN).sum ≤ Pr.total G := by unfold Pr.total; omega
        rw [w64_in (z + (X0.size : Int)) ⟨by omega, by omega⟩, w64_in (z + (X0.size : Int) + (X1.size : Int)) ⟨by omega, by omega⟩, w64_in (z + (X0.size : Int) + (X1.size : Int) + (X2.size : Int)) ⟨by omega, by omega⟩]
        omega
      case measure => simp [intOf]; omega
    · obtain rfl : a = k := by omega
      have HZ1 := Lib.hid (show T → z = ((Pr.cntN G + (G.toks.map Pr.tokN).sum : Nat) : Int) from fun ht => by rw [HZ.out ht, ← Pr.pre_all Pr.tokN G.toks, HA.out])
      go_wp2_with fail
      clear x0 x1 x2 x4 HZ
      go_loopw [3, 5] (fun n i wr => ∃ (k m : Nat) (z : Int), k ≤ b ∧ i = .int .i64 (k : Int) ∧ n = .int .i64 z ∧ (T → z = ((Pr.cntN G + (G.toks.map Pr.tokN).sum + Pr.pre Pr.patN G.skips k : Nat) : Int)) ∧ wr = W0.drewN m) (fun _ i _ => b - (intOf i).toNat)
      case atStart => exact ⟨0, m, z, by omega, rfl, rfl, fun ht => by rw [HZ1.out ht, Pr.pre_zero]; rfl, rfl⟩
      case round =>
        clear HZ1
        obtain ⟨k, m, z, hk, rfl, rfl, hz, rfl⟩ := hrel
        have HZ := Lib.hid hz
        clear hz
        have a1' := HAT0.out
        have x0 := a1'.cell 0
        have x1 := a1'.cell 1
        have x2 := a1'.cell 2
        have x4 := a1'.cell 4
        simp only [List.getElem?_toArray, List.getElem?_cons_zero, List.getElem?_cons_succ] at x0 x1 x2 x4
        clear a1'
        by_cases hlt : k < b
        · obtain ⟨x, hx⟩ := some_get (l := G.skips) (i := k) (by rw [HBb.out]; exact hlt)
          have hv := fun j u (hj : j < 3) (hu : x.cells[j]? = some u) => flat_get Rd.Pat.cells 3 (fun _ => rfl) G.skips k j x u hx hj hu
          have hne : patsV G.skips ≠ [] := fun e => by
            have h : (patsV G.skips)[k * 3 + 0]? = some (.string (str x.text)) := hv 0 _ (by omega) rfl
            rw [e] at h; simp at h
          obtain ⟨b1, o1, hA, hb1, f1⟩ := L2.out.ex hne
          rw [hA] at x1
          have y0 : W0.cell? ⟨b1, o1 + k * 3, none⟩ = some (.string (str x.text)) := f1 _ _ (hv 0 _ (by omega) rfl)
          have y1 : W0.cell? ⟨b1, o1 + k * 3 + 1, none⟩ = some (.string (str x.set)) := by rw [Nat.add_assoc]; exact f1 _ _ (hv 1 _ (by omega) rfl)
          have q0 := str_len x.text
          have q1 := str_len x.set
          have HP := Lib.hid (Pr.pre_succ Pr.patN hx)
          have hle2 := Pr.pre_le Pr.patN G.skips (k + 1)
          have hb := HHS.out.skip x (List.mem_of_getElem? hx)
          have htk : Pr.patN x = x.text.length + x.set.length := rfl
          rw [← q0, ← q1] at htk hb
          generalize str x.text = X0 at y0 htk hb
          generalize str x.set = X1 at y1 htk hb
          have HTK := Lib.hid htk
          obtain ⟨g0, g1⟩ := hb
          have HG0 := Lib.hid g0
          have HG1 := Lib.hid g1
          have HL := Lib.hid hle2
          clear hx hv hne f1 hA q0 q1 htk hle2 g0 g1
          have hki : (k : Int) < (b : Int) := by omega
          have hk0 : (0 : Int) ≤ (k : Int) := by omega
          go_wp2_with fail
          go_quiet (fail)
          go_wp2_with fail
          go_roundw
          case rel =>
            refine ⟨k + 1, _, _, by omega, by go_num, rfl, fun ht => ?_, rfl⟩
            have h1 := HZ.out ht
            have h2 := HTT.out ht
            have h3 := HP.out
            have h4 := HTK.out
            have h5 := HL.out
            have h6 : Pr.cntN G + (G.toks.map Pr.tokN).sum + (G.skips.map Pr.patN).sum ≤ Pr.total G := by unfold Pr.total; omega
            rw [w64_in (z + (X0.size : Int)) ⟨by omega, by omega⟩, w64_in (z + (X0.size : Int) + (X1.size : Int)) ⟨by omega, by omega⟩]
            omega
          case measure => simp [intOf]; omega
        · obtain rfl : b = k := by omega
          have HZ1 := Lib.hid (show T → z = ((Pr.cntN G + (G.toks.map Pr.tokN).sum + (G.skips.map Pr.patN).sum : Nat) : Int) from fun ht => by rw [HZ.out ht, ← Pr.pre_all Pr.patN G.skips, HBb.out])
          go_wp2_with fail
          clear x0 x1 x2 x4 HZ
          go_loopw [3, 6] (fun n i wr => ∃ (k m : Nat) (z : Int), k ≤ c ∧ i = .int .i64 (k : Int) ∧ n = .int .i64 z ∧ (T → z = ((Pr.cntN G + (G.toks.map Pr.tokN).sum + (G.skips.map Pr.patN).sum + Pr.pre Pr.levN G.levels k : Nat) : Int)) ∧ wr = W0.drewN m) (fun _ i _ => c - (intOf i).toNat)
          case atStart => exact ⟨0, m, z, by omega, rfl, rfl, fun ht => by rw [HZ1.out ht, Pr.pre_zero]; rfl, rfl⟩
          case round =>
            clear HZ1
            obtain ⟨k, m, z, hk, rfl, rfl, hz, rfl⟩ := hrel
            have HZ := Lib.hid hz
            clear hz
            have a1' := HAT0.out
            have x0 := a1'.cell 0
            have x1 := a1'.cell 1
            have x2 := a1'.cell 2
            have x4 := a1'.cell 4
            simp only [List.getElem?_toArray, List.getElem?_cons_zero, List.getElem?_cons_succ] at x0 x1 x2 x4
            clear a1'
            by_cases hlt : k < c
            · obtain ⟨p, hp⟩ := some_get (l := pl) (i := k) (by rw [HC.out]; exact hlt)
              have hx : G.levels[k]? = some p.1 := by rw [← HQ3.out, List.getElem?_map, hp]; rfl
              obtain ⟨E, cap, hpv, hcl⟩ := J3.out p (List.mem_of_getElem? hp)
              have hv := fun j u (hj : j < 2) (hu : (levC p)[j]? = some u) => flat_get levC 2 (fun _ => rfl) pl k j p u hp hj hu
              have hne : levsC pl ≠ [] := fun e => by
                have h : (levsC pl)[k * 2 + 0]? = some (.int .i64 p.2.2) := hv 0 _ (by omega) rfl
                rw [e] at h; simp at h
              obtain ⟨b1, o1, hA, hb1, f1⟩ := L3.out.ex hne
              rw [hA] at x2
              have y1 : W0.cell? ⟨b1, o1 + k * 2 + 1, none⟩ = some p.2.1 := by rw [Nat.add_assoc]; exact f1 _ _ (hv 1 _ (by omega) rfl)
              rw [hpv] at y1
              have HP := Lib.hid (Pr.pre_succ Pr.levN hx)
              have HL := Lib.hid (Pr.pre_le Pr.levN G.levels (k + 1))
              obtain ⟨hbn, hbl⟩ := HHS.out.lev p.1 (List.mem_of_getElem? hx)
              have HLN := Lib.hid (show Pr.levN p.1 = (p.1.names.map Pr.namN).sum from rfl)
              obtain ⟨NS, hNS⟩ : ∃ NS, p.1.names = NS := ⟨_, rfl⟩
              rw [hNS] at HLN hbn hbl y1 hcl
              obtain ⟨nn, hnn⟩ : ∃ nn, NS.length = nn := ⟨_, rfl⟩
              rw [hnn] at hbn y1
              have HNN := Lib.hid hnn
              have HBL := Lib.hid hbl
              have HCL := Lib.hid hcl
              clear hx hp hv hne f1 hA hpv hcl hbl hNS hnn
              have hki : (k : Int) < (c : Int) := by omega
              have hk0 : (0 : Int) ≤ (k : Int) := by omega
              go_wp2_with fail
              go_loopw [3, 7] (fun n i wr' => ∃ (k' m' : Nat) (z' : Int), k' ≤ nn ∧ i = .int .i64 (k' : Int) ∧ n = .int .i64 z' ∧ (T → z' = ((Pr.cntN G + (G.toks.map Pr.tokN).sum + (G.skips.map Pr.patN).sum + Pr.pre Pr.levN G.levels k + Pr.pre Pr.namN NS k' : Nat) : Int)) ∧ wr' = W0.drewN m') (fun _ i _ => nn - (intOf i).toNat)
              case atStart => exact ⟨0, m, z, by omega, rfl, rfl, fun ht => by rw [HZ.out ht, Pr.pre_zero]; rfl, rfl⟩
              case round =>
                obtain ⟨k', m', z', hk', rfl, rfl, hz, rfl⟩ := hrel
                have HZ2 := Lib.hid hz
                clear hz
                by_cases hlt' : k' < nn
                · obtain ⟨y, hy⟩ := some_get (l := NS) (i := k') (by rw [HNN.out]; exact hlt')
                  obtain ⟨b2, o2, hA2, hb2, f2⟩ := HCL.out.ex (fun e => by have h := namesV_get hy; rw [e] at h; simp at h)
                  subst hA2
                  have z0 : W0.cell? ⟨b2, o2 + k', none⟩ = some (.string (str y)) := f2 _ _ (namesV_get hy)
                  have q0 := str_len y
                  have HP2 := Lib.hid (Pr.pre_succ Pr.namN hy)
                  have HL2 := Lib.hid (Pr.pre_le Pr.namN NS (k' + 1))
                  have hb := HBL.out y (List.mem_of_getElem? hy)
                  have htk : Pr.namN y = y.length + 1 := rfl
                  rw [← q0] at htk hb
                  generalize str y = X0 at z0 htk hb
                  have HTK := Lib.hid htk
                  have HG0 := Lib.hid hb
                  clear hy f2 q0 htk hb
                  have hki' : (k' : Int) < (nn : Int) := by omega
                  have hk0' : (0 : Int) ≤ (k' : Int) := by omega
                  go_wp2_with fail
                  go_roundw
                  case rel =>
                    refine ⟨k' + 1, _, _, by omega, by go_num, rfl, fun ht => ?_, rfl⟩
                    have h1 := HZ2.out ht
                    have h2 := HTT.out ht
                    have h3 := HP2.out
                    have h4 := HTK.out
                    have h5 := HL2.out
                    have h7 := HP.out
                    have h8 := HL.out
                    have h9 := HLN.out
                    have h6 : Pr.cntN G + (G.toks.map Pr.tokN).sum + (G.skips.map Pr.patN).sum + (G.levels.map Pr.levN).sum ≤ Pr.total G := by unfold Pr.total; omega
                    rw [w64_in (z' + (X0.size : Int)) ⟨by omega, by omega⟩, w64_in (z' + (X0.size : Int) + 1) ⟨by omega, by omega⟩]
                    omega
                  case measure => simp [intOf]; omega
                · obtain rfl : nn = k' := by omega
                  have HZ3 := Lib.hid (show T → z' = ((Pr.cntN G + (G.toks.map Pr.tokN).sum + (G.skips.map Pr.patN).sum + Pr.pre Pr.levN G.levels (k + 1) : Nat) : Int) from fun ht => by
                    have e := Pr.pre_all Pr.namN NS
                    rw [HNN.out] at e
                    have h3 := HP.out
                    have h9 := HLN.out
                    rw [HZ2.out ht]
                    omega)
                  clear HZ2
                  go_wp2_with fail
                  go_roundw
                  case rel => exact ⟨k + 1, _, z', by omega, by go_num, rfl, HZ3.out, rfl⟩
                  case measure => simp [intOf]; omega
            · obtain rfl : c = k := by omega
              have HZ1 := Lib.hid (show T → z = ((Pr.cntN G + (G.toks.map Pr.tokN).sum + (G.skips.map Pr.patN).sum + (G.levels.map Pr.levN).sum : Nat) : Int) from fun ht => by
                have e : G.levels.length = c := by rw [← HQ3.out, List.length_map, HC.out]
                rw [HZ.out ht, ← Pr.pre_all Pr.levN G.levels, e])
              go_wp2_with fail
              clear x0 x1 x2 x4 HZ
              go_loopw [3, 8] (fun n i wr => ∃ (k m : Nat) (z : Int), k ≤ d ∧ i = .int .i64 (k : Int) ∧ n = .int .i64 z ∧ (T → z = ((Pr.cntN G + (G.toks.map Pr.tokN).sum + (G.skips.map Pr.patN).sum + (G.levels.map Pr.levN).sum + Pr.pre Pr.rulN G.rules k : Nat) : Int)) ∧ wr = W0.drewN m) (fun _ i _ => d - (intOf i).toNat)
              case atStart => exact ⟨0, m, z, by omega, rfl, rfl, fun ht => by rw [HZ1.out ht, Pr.pre_zero]; rfl, rfl⟩
              case round =>
                clear HZ1
                obtain ⟨k, m, z, hk, rfl, rfl, hz, rfl⟩ := hrel
                have HZ := Lib.hid hz
                clear hz
                have a1' := HAT0.out
                have x0 := a1'.cell 0
                have x1 := a1'.cell 1
                have x2 := a1'.cell 2
                have x4 := a1'.cell 4
                simp only [List.getElem?_toArray, List.getElem?_cons_zero, List.getElem?_cons_succ] at x0 x1 x2 x4
                clear a1'
                by_cases hlt : k < d
                · obtain ⟨p, hp⟩ := some_get (l := ql) (i := k) (by rw [HD.out]; exact hlt)
                  have hx : G.rules[k]? = some p.1 := by rw [← HQ4.out, List.getElem?_map, hp]; rfl
                  obtain ⟨E, cap, hpv, hcl⟩ := J4.out p (List.mem_of_getElem? hp)
                  have hv := fun j u (hj : j < 4) (hu : (ruleCells p)[j]? = some u) => flat_get ruleCells 4 (fun _ => rfl) ql k j p u hp hj hu
                  have hne : rulesV ql ≠ [] := fun e => by
                    have h : (rulesV ql)[k * 4 + 0]? = some (.string (str p.1.left)) := hv 0 _ (by omega) rfl
                    rw [e] at h; simp at h
                  obtain ⟨b1, o1, hA, hb1, f1⟩ := L4.out.ex hne
                  rw [hA] at x4
                  have y0 : W0.cell? ⟨b1, o1 + k * 4, none⟩ = some (.string (str p.1.left)) := f1 _ _ (hv 0 _ (by omega) rfl)
                  have y1 : W0.cell? ⟨b1, o1 + k * 4 + 1, none⟩ = some p.2 := by rw [Nat.add_assoc]; exact f1 _ _ (hv 1 _ (by omega) rfl)
                  have y2 : W0.cell? ⟨b1, o1 + k * 4 + 2, none⟩ = some (.string (str p.1.prec)) := by rw [Nat.add_assoc]; exact f1 _ _ (hv 2 _ (by omega) rfl)
                  have y3 : W0.cell? ⟨b1, o1 + k * 4 + 3, none⟩ = some (.string (str p.1.action)) := by rw [Nat.add_assoc]; exact f1 _ _ (hv 3 _ (by omega) rfl)
                  rw [hpv] at y1
                  have HP := Lib.hid (Pr.pre_succ Pr.rulN hx)
                  have HL := Lib.hid (Pr.pre_le Pr.rulN G.rules (k + 1))
                  have q0 := str_len p.1.left
                  have q2 := str_len p.1.prec
                  have q3 := str_len p.1.action
                  obtain ⟨g0, g2, g3, hbn, hbl⟩ := HHS.out.rul p.1 (List.mem_of_getElem? hx)
                  have hln : Pr.rulN p.1 = p.1.left.length + p.1.prec.length + p.1.action.length + (p.1.right.map Pr.namN).sum := rfl
                  rw [← q0, ← q2, ← q3] at hln
                  rw [← q0] at g0
                  rw [← q2] at g2
                  rw [← q3] at g3
                  generalize str p.1.left = X0 at y0 hln g0
                  generalize str p.1.prec = X2 at y2 hln g2
                  generalize str p.1.action = X3 at y3 hln g3
                  obtain ⟨NS, hNS⟩ : ∃ NS, p.1.right = NS := ⟨_, rfl⟩
                  rw [hNS] at hln hbn hbl y1 hcl
                  have HLN := Lib.hid hln
                  obtain ⟨nn, hnn⟩ : ∃ nn, NS.length = nn := ⟨_, rfl⟩
                  rw [hnn] at hbn y1
                  have HNN := Lib.hid hnn
                  have HBL := Lib.hid hbl
                  have HCL := Lib.hid hcl
                  have HG0 := Lib.hid g0
                  have HG2 := Lib.hid g2
                  have HG3 := Lib.hid g3
                  clear hx hp hv hne f1 hA hpv hcl hbl hNS hnn q0 q2 q3 hln g0 g2 g3
                  have hki : (k : Int) < (d : Int) := by omega
                  have hk0 : (0 : Int) ≤ (k : Int) := by omega
                  have hsum : T → wrap64 (wrap64 (wrap64 (z + (X0.size : Int)) + (X2.size : Int)) + (X3.size : Int)) = ((Pr.cntN G + (G.toks.map Pr.tokN).sum + (G.skips.map Pr.patN).sum + (G.levels.map Pr.levN).sum + Pr.pre Pr.rulN G.rules k + (X0.size + X2.size + X3.size) : Nat) : Int) := fun ht => by
                    have h1 := HZ.out ht
                    have h2 := HTT.out ht
                    have h3 := HP.out
                    have h5 := HL.out
                    have h9 := HLN.out
                    have h6 : Pr.cntN G + (G.toks.map Pr.tokN).sum + (G.skips.map Pr.patN).sum + (G.levels.map Pr.levN).sum + (G.rules.map Pr.rulN).sum ≤ Pr.total G := by unfold Pr.total; omega
                    rw [w64_in (z + (X0.size : Int)) ⟨by omega, by omega⟩, w64_in (z + (X0.size : Int) + (X2.size : Int)) ⟨by omega, by omega⟩, w64_in (z + (X0.size : Int) + (X2.size : Int) + (X3.size : Int)) ⟨by omega, by omega⟩]
                    omega
                  have HSUM := Lib.hid hsum
                  clear hsum
                  go_wp2_with fail
                  go_quiet (fail)
                  go_wp2_with fail
                  go_loopw [3, 9] (fun n i wr' => ∃ (k' m' : Nat) (z' : Int), k' ≤ nn ∧ i = .int .i64 (k' : Int) ∧ n = .int .i64 z' ∧ (T → z' = ((Pr.cntN G + (G.toks.map Pr.tokN).sum + (G.skips.map Pr.patN).sum + (G.levels.map Pr.levN).sum + Pr.pre Pr.rulN G.rules k + (X0.size + X2.size + X3.size) + Pr.pre Pr.namN NS k' : Nat) : Int)) ∧ wr' = W0.drewN m') (fun _ i _ => nn - (intOf i).toNat)
                  case atStart => exact ⟨0, m + nq, _, by omega, rfl, rfl, fun ht => by rw [HSUM.out ht, Pr.pre_zero]; rfl, by rw [World.drewN_drewN]⟩
                  case round =>
                    obtain ⟨k', m', z', hk', rfl, rfl, hz, rfl⟩ := hrel
                    have HZ2 := Lib.hid hz
                    clear hz
                    by_cases hlt' : k' < nn
                    · obtain ⟨y, hy⟩ := some_get (l := NS) (i := k') (by rw [HNN.out]; exact hlt')
                      obtain ⟨b2, o2, hA2, hb2, f2⟩ := HCL.out.ex (fun e => by have h := namesV_get hy; rw [e] at h; simp at h)
                      subst hA2
                      have z0 : W0.cell? ⟨b2, o2 + k', none⟩ = some (.string (str y)) := f2 _ _ (namesV_get hy)
                      have q0 := str_len y
                      have HP2 := Lib.hid (Pr.pre_succ Pr.namN hy)
                      have HL2 := Lib.hid (Pr.pre_le Pr.namN NS (k' + 1))
                      have hb := HBL.out y (List.mem_of_getElem? hy)
                      have htk : Pr.namN y = y.length + 1 := rfl
                      rw [← q0] at htk hb
                      generalize str y = XY at z0 htk hb
                      have HTK := Lib.hid htk
                      have HGY := Lib.hid hb
                      clear hy f2 q0 htk hb
                      have hki' : (k' : Int) < (nn : Int) := by omega
                      have hk0' : (0 : Int) ≤ (k' : Int) := by omega
                      go_wp2_with fail
                      go_roundw
                      case rel =>
                        refine ⟨k' + 1, _, _, by omega, by go_num, rfl, fun ht => ?_, rfl⟩
                        have h1 := HZ2.out ht
                        have h2 := HTT.out ht
                        have h3 := HP2.out
                        have h4 := HTK.out
                        have h5 := HL2.out
                        have h7 := HP.out
                        have h8 := HL.out
                        have h9 := HLN.out
                        have h6 : Pr.cntN G + (G.toks.map Pr.tokN).sum + (G.skips.map Pr.patN).sum + (G.levels.map Pr.levN).sum + (G.rules.map Pr.rulN).sum ≤ Pr.total G := by unfold Pr.total; omega
                        rw [w64_in (z' + (XY.size : Int)) ⟨by omega, by omega⟩, w64_in (z' + (XY.size : Int) + 1) ⟨by omega, by omega⟩]
                        omega
                      case measure => simp [intOf]; omega
                    · obtain rfl : nn = k' := by omega
                      have HZ3 := Lib.hid (show T → z' = ((Pr.cntN G + (G.toks.map Pr.tokN).sum + (G.skips.map Pr.patN).sum + (G.levels.map Pr.levN).sum + Pr.pre Pr.rulN G.rules (k + 1) : Nat) : Int) from fun ht => by
                        have e := Pr.pre_all Pr.namN NS
                        rw [HNN.out] at e
                        have h3 := HP.out
                        have h9 := HLN.out
                        rw [HZ2.out ht]
                        omega)
                      clear HZ2
                      go_wp2_with fail
                      go_roundw
                      case rel => exact ⟨k + 1, _, z', by omega, by go_num, rfl, HZ3.out, rfl⟩
                      case measure => simp [intOf]; omega
                · obtain rfl : d = k := by omega
                  have HZ1 := Lib.hid (show T → z = (Pr.total G : Int) from fun ht => by
                    have e : G.rules.length = d := by rw [← HQ4.out, List.length_map, HD.out]
                    rw [HZ.out ht, ← e, Pr.pre_all Pr.rulN G.rules]; rfl)
                  have HFW := Lib.hid (show fb = decide (Pr.total G ≤ 1500) by
                    rw [← HFB.out]; unfold Pr.fewB; rw [HCN.out, decide_eq_true HLE.out, Bool.true_and])
                  clear HZ
                  by_cases hz : z ≤ 1500
                  · go_wp2_with fail
                    go_ret
                    exact ⟨⟨⟨true, rfl, fun ht => by rw [HFW.out, decide_eq_true (by have := HZ1.out ht; omega)]⟩⟩, below_drewN HB0.out _⟩
                  · go_wp2_with fail
                    go_ret
                    exact ⟨⟨⟨false, rfl, fun ht => by rw [HFW.out, decide_eq_false (by have := HZ1.out ht; omega)]⟩⟩, below_drewN HB0.out _⟩

end Go.Proofs.YtgmihbfikggkjaaDoor

namespace Go.Proofs.YtgmihbfikggkjaaDoor
open Go.RowKit
open Lx
set_option linter.unusedVariables false
set_option linter.unusedSimpArgs false
set_option maxRecDepth 100000

theorem Cl.drewN {w : World} {B : Nat} {A : Option Addr} {xs : List Value} (h : Cl w B A xs) (n : Nat) : Cl (w.drewN n) B A xs := ⟨h.ex⟩
theorem textsC_same (A1 A2 : Option Addr) (c1 c2 : Nat) (l : List Rd.Name) (B : Nat) (w : World) (h1 : Cl w B A1 (namesV l)) (h2 : Cl w B A2 (namesV l)) (hl : l.length ≤ 1000000) :
    Calls Tryd.prog 16 #[.slice A1 l.length c1, .slice A2 l.length c2] w fun e w' => e = .returned (.bool true) ∧ ∃ n, w' = w.drewN n := by
  have H1 := Lib.hid h1
  have H2 := Lib.hid h2
  obtain ⟨n, hn⟩ : ∃ n, l.length = n := ⟨_, rfl⟩
  rw [hn] at hl ⊢
  have HN := Lib.hid hn
  clear h1 h2 hn
  go_enter Tryd.func16, Tryd.ntmps16
  go_wp2_with fail
  go_loopw [5] (fun i wr => ∃ (k m : Nat), k ≤ n ∧ i = .int .i64 (k : Int) ∧ wr = w.drewN m) (fun i _ => n - (intOf i).toNat)
  case atStart => exact ⟨0, 0, by omega, rfl, rfl⟩
  case round =>
    obtain ⟨k, m, hk, rfl, rfl⟩ := hrel
    by_cases hlt : k < n
    · obtain ⟨x, hx⟩ := some_get (l := l) (i := k) (by rw [HN.out]; exact hlt)
      have hv : (namesV l)[k]? = some (.string (str x)) := by simp [namesV, hx]
      have hne : namesV l ≠ [] := fun e => by rw [e] at hv; simp at hv
      obtain ⟨b1, o1, rfl, _, f1⟩ := H1.out.ex hne
      obtain ⟨b2, o2, rfl, _, f2⟩ := H2.out.ex hne
      have cc : w.cell? ⟨b1, o1 + k, none⟩ = some (.string (str x)) := f1 _ _ hv
      have dd : w.cell? ⟨b2, o2 + k, none⟩ = some (.string (str x)) := f2 _ _ hv
      have t1 : ((str x).toList == (str x).toList) = true := by simp
      have t2 : ((str x).toList != (str x).toList) = false := by simp
      have hki : (k : Int) < (n : Int) := by omega
      have hk0 : (0 : Int) ≤ (k : Int) := by omega
      clear hx hv hne f1 f2
      go_wp2_with fail
      go_quiet (fail)
      go_wp2_with fail
      go_roundw
      case rel => exact ⟨k + 1, _, by omega, by go_num, rfl⟩
      case measure => simp [intOf]; omega
    · obtain rfl : n = k := by omega
      go_wp2_with fail
      go_ret
      exact ⟨rfl, m, rfl⟩

set_option maxHeartbeats 4000000 in
theorem sameC_any (v1 v2 : Value) (G : Rd.G) (B : Nat) (w : World) (h1 : GramC w B v1 G) (h2 : GramC w B v2 G) (hB : B ≤ w.heap.size) (ha : ∀ x ∈ G.levels, 1 ≤ x.assoc) (hs : G.toks.length ≤ 1000000 ∧ G.skips.length ≤ 1000000 ∧ G.levels.length ≤ 1000000 ∧ G.rules.length ≤ 1000000) (hn1 : ∀ l ∈ G.levels, l.names.length ≤ 1000000) (hn2 : ∀ r ∈ G.rules, r.right.length ≤ 1000000) :
    Calls Tryd.prog 9 #[v1, v2] w fun e w' => e = .returned (.bool true) ∧ Below w.heap.size w w' := by
  obtain ⟨A1, c1, A2, c2, A3, c3, A4, c4, pl, ql, rfl, k1, k2, k3, q3, j3, k4, q4, j4⟩ := h1.ex
  obtain ⟨B1, e1, B2, e2, B3, e3, B4, e4, pl', ql', rfl, m1, m2, m3, r3, n3, m4, r4, n4⟩ := h2.ex
  have K1 := Lib.hid k1
  have K2 := Lib.hid k2
  have K3 := Lib.hid k3
  have K4 := Lib.hid k4
  have M1 := Lib.hid m1
  have M2 := Lib.hid m2
  have M3 := Lib.hid m3
  have M4 := Lib.hid m4
  have Q3 := Lib.hid q3
  have Q4 := Lib.hid q4
  have R3 := Lib.hid r3
  have R4 := Lib.hid r4
  have J3 := Lib.hid j3
  have J4 := Lib.hid j4
  have N3 := Lib.hid n3
  have N4 := Lib.hid n4
  have HN1 := Lib.hid hn1
  have HAS := Lib.hid ha
  have HN2 := Lib.hid hn2
  obtain ⟨s1, s2, s3, s4⟩ := hs
  obtain ⟨a, haa⟩ : ∃ a, G.toks.length = a := ⟨_, rfl⟩
  obtain ⟨b, hb⟩ : ∃ b, G.skips.length = b := ⟨_, rfl⟩
  obtain ⟨c, hc⟩ : ∃ c, G.levels.length = c := ⟨_, rfl⟩
  obtain ⟨d, hd⟩ : ∃ d, G.rules.length = d := ⟨_, rfl⟩
  rw [haa] at s1 ⊢
  rw [hb] at s2 ⊢
  rw [hc] at s3 ⊢
  rw [hd] at s4 ⊢
  have HA := Lib.hid haa
  have HB := Lib.hid hb
  have HC := Lib.hid hc
  have HD := Lib.hid hd
  clear ha h1 h2 k1 k2 k3 k4 m1 m2 m3 m4 q3 q4 r3 r4 j3 j4 n3 n4 hn1 hn2 haa hb hc hd
  obtain ⟨st, hst⟩ : ∃ st, str G.start = st := ⟨_, rfl⟩
  rw [hst]
  clear hst
  go_enter Tryd.func9, Tryd.ntmps9
  have hbw : Below w.heap.size w ((w.alloc (.cells #[.slice A1 a c1, .slice A2 b c2, .slice A3 c c3, .string st, .slice A4 d c4] 35)).alloc (.cells #[.slice B1 a e1, .slice B2 b e2, .slice B3 c e3, .string st, .slice B4 d e4] 35)) := ((Below.refl _ _).alloc (Nat.le_refl _) _).alloc (by simp) _
  have hg1 := (At.new w 35 #[.slice A1 a c1, .slice A2 b c2, .slice A3 c c3, .string st, .slice A4 d c4]).alloc (.cells #[.slice B1 a e1, .slice B2 b e2, .slice B3 c e3, .string st, .slice B4 d e4] 35)
  have hg2 := At.new (w.alloc (.cells #[.slice A1 a c1, .slice A2 b c2, .slice A3 c c3, .string st, .slice A4 d c4] 35)) 35 #[.slice B1 a e1, .slice B2 b e2, .slice B3 c e3, .string st, .slice B4 d e4]
  have hg2' : At ((w.alloc (.cells #[.slice A1 a c1, .slice A2 b c2, .slice A3 c c3, .string st, .slice A4 d c4] 35)).alloc (.cells #[.slice B1 a e1, .slice B2 b e2, .slice B3 c e3, .string st, .slice B4 d e4] 35)) (w.heap.size + 1) 35 #[.slice B1 a e1, .slice B2 b e2, .slice B3 c e3, .string st, .slice B4 d e4] := by simpa using hg2
  have u1 : (st.toList != st.toList) = false := by simp
  have u2 : (st.toList == st.toList) = true := by simp
  have u3 : ∀ k : Nat, ((k : Int) != (k : Int)) = false := fun k => by simp
  go_wp2_with fail
  obtain ⟨W, hW⟩ : ∃ W, (w.alloc (.cells #[.slice A1 a c1, .slice A2 b c2, .slice A3 c c3, .string st, .slice A4 d c4] 35)).alloc (.cells #[.slice B1 a e1, .slice B2 b e2, .slice B3 c e3, .string st, .slice B4 d e4] 35) = W := ⟨_, rfl⟩
  obtain ⟨g1, hge1⟩ : ∃ g1, w.heap.size = g1 := ⟨_, rfl⟩
  rw [hW] at hbw hg1 hg2' ⊢
  rw [hge1] at hg1 hg2' ⊢
  obtain ⟨g2, hge2⟩ : ∃ g2, g1 + 1 = g2 := ⟨_, rfl⟩
  rw [hge2] at hg2' ⊢
  have hBW : B ≤ W.heap.size := Nat.le_trans hB hbw.size
  have HG1 := Lib.hid hg1
  have HG2 := Lib.hid hg2'
  have HBW := Lib.hid hbw
  have L1 := Lib.hid (K1.out.below (hbw.mono hB))
  have L2 := Lib.hid (K2.out.below (hbw.mono hB))
  have L3 := Lib.hid (K3.out.below (hbw.mono hB))
  have L4 := Lib.hid (K4.out.below (hbw.mono hB))
  have P1 := Lib.hid (M1.out.below (hbw.mono hB))
  have P2 := Lib.hid (M2.out.below (hbw.mono hB))
  have P3 := Lib.hid (M3.out.below (hbw.mono hB))
  have P4 := Lib.hid (M4.out.below (hbw.mono hB))
  have J3' := Lib.hid (show ∀ p ∈ pl, NmC W B p.2.1 p.1.names from fun p hp => (J3.out p hp).2.below (hbw.mono hB))
  have J4' := Lib.hid (show ∀ p ∈ ql, NmC W B p.2 p.1.right from fun p hp => (J4.out p hp).below (hbw.mono hB))
  have N3' := Lib.hid (show ∀ p ∈ pl', NmC W B p.2.1 p.1.names from fun p hp => (N3.out p hp).2.below (hbw.mono hB))
  have N4' := Lib.hid (show ∀ p ∈ ql', NmC W B p.2 p.1.right from fun p hp => (N4.out p hp).below (hbw.mono hB))
  have hgl1 := hg1.lt
  have hgl2 := hg2'.lt
  clear hW hge1 hge2 hg1 hg2 hg2' hbw K1 K2 K3 K4 M1 M2 M3 M4 J4 N4
  go_loopw [5] (fun i wr => ∃ k : Nat, k ≤ a ∧ i = .int .i64 (k : Int) ∧ Below W.heap.size W wr) (fun i _ => a - (intOf i).toNat)
  case atStart => exact ⟨0, by omega, rfl, Below.refl _ _⟩
  case round =>
    obtain ⟨k, hk, rfl, hbe⟩ := hrel
    have HBE := Lib.hid hbe
    clear hbe
    have hs9 := HBE.out.size
    have hl9 : g1 < wr.heap.size := by omega
    have hl8 : g2 < wr.heap.size := by omega
    have a1' := HG1.out.below HBE.out hgl1
    have a2' := HG2.out.below HBE.out hgl2
    have x0 := a1'.cell 0
    have x1 := a1'.cell 1
    have x2 := a1'.cell 2
    have x4 := a1'.cell 4
    have w0 := a2'.cell 0
    have w1 := a2'.cell 1
    have w2 := a2'.cell 2
    have w4 := a2'.cell 4
    simp only [List.getElem?_toArray, List.getElem?_cons_zero, List.getElem?_cons_succ] at x0 x1 x2 x4 w0 w1 w2 w4
    clear a1' a2'
    by_cases hlt : k < a
    · obtain ⟨x, hx⟩ := some_get (l := G.toks) (i := k) (by rw [HA.out]; exact hlt)
      have hv := fun j u (hj : j < 4) (hu : x.cells[j]? = some u) => flat_get Rd.Tok.cells 4 (fun _ => rfl) G.toks k j x u hx hj hu
      have hne : toksV G.toks ≠ [] := fun e => by
        have h : (toksV G.toks)[k * 4 + 0]? = some (.string (str x.name)) := hv 0 _ (by omega) rfl
        rw [e] at h; simp at h
      obtain ⟨b1, o1, hA, hb1, f1⟩ := (L1.out.below (HBE.out.mono hBW)).ex hne
      obtain ⟨b2, o2, hB, hb2, f2⟩ := (P1.out.below (HBE.out.mono hBW)).ex hne
      have hb1 : b1 < wr.heap.size := by omega
      have hb2 : b2 < wr.heap.size := by omega
      (try rw [hA] at x0)
      (try rw [hA] at x1)
      (try rw [hA] at x2)
      (try rw [hA] at x4)
      (try rw [hB] at w0)
      (try rw [hB] at w1)
      (try rw [hB] at w2)
      (try rw [hB] at w4)
      have y0 : wr.cell? ⟨b1, o1 + k * 4, none⟩ = some (.string (str x.name)) := f1 _ _ (hv 0 _ (by omega) rfl)
      have y1 : wr.cell? ⟨b1, o1 + k * 4 + 1, none⟩ = some (.string (str x.pat.text)) := by rw [Nat.add_assoc]; exact f1 _ _ (hv 1 _ (by omega) rfl)
      have y2 : wr.cell? ⟨b1, o1 + k * 4 + 2, none⟩ = some (.string (str x.pat.set)) := by rw [Nat.add_assoc]; exact f1 _ _ (hv 2 _ (by omega) rfl)
      have y3 : wr.cell? ⟨b1, o1 + k * 4 + 3, none⟩ = some (.bool x.pat.many) := by rw [Nat.add_assoc]; exact f1 _ _ (hv 3 _ (by omega) rfl)
      have z0 : wr.cell? ⟨b2, o2 + k * 4, none⟩ = some (.string (str x.name)) := f2 _ _ (hv 0 _ (by omega) rfl)
      have z1 : wr.cell? ⟨b2, o2 + k * 4 + 1, none⟩ = some (.string (str x.pat.text)) := by rw [Nat.add_assoc]; exact f2 _ _ (hv 1 _ (by omega) rfl)
      have z2 : wr.cell? ⟨b2, o2 + k * 4 + 2, none⟩ = some (.string (str x.pat.set)) := by rw [Nat.add_assoc]; exact f2 _ _ (hv 2 _ (by omega) rfl)
      have z3 : wr.cell? ⟨b2, o2 + k * 4 + 3, none⟩ = some (.bool x.pat.many) := by rw [Nat.add_assoc]; exact f2 _ _ (hv 3 _ (by omega) rfl)
      clear hne f1 f2 hA hB
      generalize str x.name = X0 at y0 z0
      generalize str x.pat.text = X1 at y1 z1
      generalize str x.pat.set = X2 at y2 z2
      generalize x.pat.many = X3 at y3 z3
      have hki : (k : Int) < (a : Int) := by omega
      have hk0 : (0 : Int) ≤ (k : Int) := by omega
      go_wp2_with fail
      go_quiet (fail)
      go_wp2_with fail
      go_roundw
      case rel => exact ⟨k + 1, by omega, by go_num, below_drewN HBE.out _⟩
      case measure => simp [intOf]; omega
    · obtain rfl : a = k := by omega
      go_wp2_with fail
      clear x0 x1 x2 x4 w0 w1 w2 w4 hs9 hl8 hl9
      go_loopw [6] (fun i wr' => ∃ k : Nat, k ≤ b ∧ i = .int .i64 (k : Int) ∧ Below W.heap.size W wr') (fun i _ => b - (intOf i).toNat)
      case atStart => exact ⟨0, by omega, rfl, HBE.out⟩
      case round =>
        clear HBE
        rename_i wr0
        obtain ⟨k, hk, rfl, hbe⟩ := hrel
        have HBE := Lib.hid hbe
        clear hbe
        have hs9 := HBE.out.size
        have hl9 : g1 < wr.heap.size := by omega
        have hl8 : g2 < wr.heap.size := by omega
        have a1' := HG1.out.below HBE.out hgl1
        have a2' := HG2.out.below HBE.out hgl2
        have x0 := a1'.cell 0
        have x1 := a1'.cell 1
        have x2 := a1'.cell 2
        have x4 := a1'.cell 4
        have w0 := a2'.cell 0
        have w1 := a2'.cell 1
        have w2 := a2'.cell 2
        have w4 := a2'.cell 4
        simp only [List.getElem?_toArray, List.getElem?_cons_zero, List.getElem?_cons_succ] at x0 x1 x2 x4 w0 w1 w2 w4
        clear a1' a2'
        by_cases hlt : k < b
        · obtain ⟨x, hx⟩ := some_get (l := G.skips) (i := k) (by rw [HB.out]; exact hlt)
          have hv := fun j u (hj : j < 3) (hu : x.cells[j]? = some u) => flat_get Rd.Pat.cells 3 (fun _ => rfl) G.skips k j x u hx hj hu
          have hne : patsV G.skips ≠ [] := fun e => by
            have h : (patsV G.skips)[k * 3 + 0]? = some (.string (str x.text)) := hv 0 _ (by omega) rfl
            rw [e] at h; simp at h
          obtain ⟨b1, o1, hA, hb1, f1⟩ := (L2.out.below (HBE.out.mono hBW)).ex hne
          obtain ⟨b2, o2, hB, hb2, f2⟩ := (P2.out.below (HBE.out.mono hBW)).ex hne
          have hb1 : b1 < wr.heap.size := by omega
          have hb2 : b2 < wr.heap.size := by omega
          (try rw [hA] at x0)
          (try rw [hA] at x1)
          (try rw [hA] at x2)
          (try rw [hA] at x4)
          (try rw [hB] at w0)
          (try rw [hB] at w1)
          (try rw [hB] at w2)
          (try rw [hB] at w4)
          have y0 : wr.cell? ⟨b1, o1 + k * 3, none⟩ = some (.string (str x.text)) := f1 _ _ (hv 0 _ (by omega) rfl)
          have y1 : wr.cell? ⟨b1, o1 + k * 3 + 1, none⟩ = some (.string (str x.set)) := by rw [Nat.add_assoc]; exact f1 _ _ (hv 1 _ (by omega) rfl)
          have y2 : wr.cell? ⟨b1, o1 + k * 3 + 2, none⟩ = some (.bool x.many) := by rw [Nat.add_assoc]; exact f1 _ _ (hv 2 _ (by omega) rfl)
          have z0 : wr.cell? ⟨b2, o2 + k * 3, none⟩ = some (.string (str x.text)) := f2 _ _ (hv 0 _ (by omega) rfl)
          have z1 : wr.cell? ⟨b2, o2 + k * 3 + 1, none⟩ = some (.string (str x.set)) := by rw [Nat.add_assoc]; exact f2 _ _ (hv 1 _ (by omega) rfl)
          have z2 : wr.cell? ⟨b2, o2 + k * 3 + 2, none⟩ = some (.bool x.many) := by rw [Nat.add_assoc]; exact f2 _ _ (hv 2 _ (by omega) rfl)
          clear hne f1 f2 hA hB
          generalize str x.text = X0 at y0 z0
          generalize str x.set = X1 at y1 z1
          generalize x.many = X2 at y2 z2
          have hki : (k : Int) < (b : Int) := by omega
          have hk0 : (0 : Int) ≤ (k : Int) := by omega
          go_wp2_with fail
          go_quiet (fail)
          go_wp2_with fail
          go_roundw
          case rel => exact ⟨k + 1, by omega, by go_num, below_drewN HBE.out _⟩
          case measure => simp [intOf]; omega
        · obtain rfl : b = k := by omega
          go_wp2_with fail
          clear x0 x1 x2 x4 w0 w1 w2 w4 hs9 hl8 hl9
          go_loopw [7] (fun i wr' => ∃ k : Nat, k ≤ c ∧ i = .int .i64 (k : Int) ∧ Below W.heap.size W wr') (fun i _ => c - (intOf i).toNat)
          case atStart => exact ⟨0, by omega, rfl, HBE.out⟩
          case round =>
            clear HBE
            rename_i wr1
            obtain ⟨k, hk, rfl, hbe⟩ := hrel
            have HBE := Lib.hid hbe
            clear hbe
            have hs9 := HBE.out.size
            have hl9 : g1 < wr.heap.size := by omega
            have hl8 : g2 < wr.heap.size := by omega
            have a1' := HG1.out.below HBE.out hgl1
            have a2' := HG2.out.below HBE.out hgl2
            have x0 := a1'.cell 0
            have x1 := a1'.cell 1
            have x2 := a1'.cell 2
            have x4 := a1'.cell 4
            have w0 := a2'.cell 0
            have w1 := a2'.cell 1
            have w2 := a2'.cell 2
            have w4 := a2'.cell 4
            simp only [List.getElem?_toArray, List.getElem?_cons_zero, List.getElem?_cons_succ] at x0 x1 x2 x4 w0 w1 w2 w4
            clear a1' a2'
            by_cases hlt : k < c
            · obtain ⟨x, hx⟩ := some_get (l := G.levels) (i := k) (by rw [HC.out]; exact hlt)
              obtain ⟨p, hp, hpx⟩ : ∃ p, pl[k]? = some p ∧ p.1 = x := by
                have h := hx
                rw [← Q3.out, List.getElem?_map, Option.map_eq_some_iff] at h
                exact h
              obtain ⟨p', hp', hpx'⟩ : ∃ p, pl'[k]? = some p ∧ p.1 = x := by
                have h := hx
                rw [← R3.out, List.getElem?_map, Option.map_eq_some_iff] at h
                exact h
              obtain ⟨E1, d1, hv1, hl1⟩ := J3'.out p (List.mem_of_getElem? hp)
              obtain ⟨E2, d2, hv2, hl2⟩ := N3'.out p' (List.mem_of_getElem? hp')
              rw [hpx] at hv1 hl1
              rw [hpx'] at hv2 hl2
              have hm1 := HN1.out x (List.mem_of_getElem? hx)
              have hv := fun j u (hj : j < 2) (hu : (levC p)[j]? = some u) => flat_get levC 2 (fun _ => rfl) pl k j p u hp hj hu
              have hv' := fun j u (hj : j < 2) (hu : (levC p')[j]? = some u) => flat_get levC 2 (fun _ => rfl) pl' k j p' u hp' hj hu
              obtain ⟨b1, o1, hA, hb1, f1⟩ := (L3.out.below (HBE.out.mono hBW)).ex (fun e => by have h := hv 0 _ (by omega) rfl; rw [show pl.flatMap levC = levsC pl from rfl, e] at h; simp at h)
              obtain ⟨b2, o2, hB, hb2, f2⟩ := (P3.out.below (HBE.out.mono hBW)).ex (fun e => by have h := hv' 0 _ (by omega) rfl; rw [show pl'.flatMap levC = levsC pl' from rfl, e] at h; simp at h)
              have hb1 : b1 < wr.heap.size := by omega
              have hb2 : b2 < wr.heap.size := by omega
              rw [hA] at x2
              rw [hB] at w2
              have y0 : wr.cell? ⟨b1, o1 + k * 2, none⟩ = some (.int .i64 p.2.2) := f1 _ _ (hv 0 _ (by omega) rfl)
              have y1 : wr.cell? ⟨b1, o1 + k * 2 + 1, none⟩ = some p.2.1 := by rw [Nat.add_assoc]; exact f1 _ _ (hv 1 _ (by omega) rfl)
              have z0 : wr.cell? ⟨b2, o2 + k * 2, none⟩ = some (.int .i64 p'.2.2) := f2 _ _ (hv' 0 _ (by omega) rfl)
              have z1 : wr.cell? ⟨b2, o2 + k * 2 + 1, none⟩ = some p'.2.1 := by rw [Nat.add_assoc]; exact f2 _ _ (hv' 1 _ (by omega) rfl)
              have hw1 : p.2.2 = (x.assoc : Int) := by have h := (J3.out p (List.mem_of_getElem? hp)).1; rw [hpx] at h; have h2 := HAS.out x (List.mem_of_getElem? hx); rw [h] at h2 ⊢; exact encA_of h2
              rw [hw1] at y0
              have hw2 : p'.2.2 = (x.assoc : Int) := by have h := (N3.out p' (List.mem_of_getElem? hp')).1; rw [hpx'] at h; have h2 := HAS.out x (List.mem_of_getElem? hx); rw [h] at h2 ⊢; exact encA_of h2
              rw [hw2] at z0
              rw [hv1] at y1
              rw [hv2] at z1
              have HL1 := Lib.hid (hl1.below (HBE.out.mono hBW))
              have HL2 := Lib.hid (hl2.below (HBE.out.mono hBW))
              clear hw1 hw2 hx hp hpx hp' hpx' hv1 hl1 hv2 hl2 hv hv' f1 f2 hA hB
              generalize x.assoc = X0 at y0 z0
              generalize x.names = XN at y1 z1 HL1 HL2 hm1
              have hki : (k : Int) < (c : Int) := by omega
              have hk0 : (0 : Int) ≤ (k : Int) := by omega
              have u4 : ((X0 : Int) != (X0 : Int)) = false := by simp
              go_wp2_with fail
              go_quiet (first | (go_at_call 16; refine quiet_texts (textsC_same _ _ _ _ XN B _ (HL1.out.drewN _) (HL2.out.drewN _) hm1)))
              go_wp2_with fail
              go_roundw
              case rel => exact ⟨k + 1, by omega, by go_num, below_drewN HBE.out _⟩
              case measure => simp [intOf]; omega
            · obtain rfl : c = k := by omega
              go_wp2_with fail
              clear x0 x1 x2 x4 w0 w1 w2 w4 hs9 hl8 hl9
              go_loopw [8] (fun i wr' => ∃ k : Nat, k ≤ d ∧ i = .int .i64 (k : Int) ∧ Below W.heap.size W wr') (fun i _ => d - (intOf i).toNat)
              case atStart => exact ⟨0, by omega, rfl, HBE.out⟩
              case round =>
                clear HBE
                rename_i wr2
                obtain ⟨k, hk, rfl, hbe⟩ := hrel
                have HBE := Lib.hid hbe
                clear hbe
                have hs9 := HBE.out.size
                have hl9 : g1 < wr.heap.size := by omega
                have hl8 : g2 < wr.heap.size := by omega
                have a1' := HG1.out.below HBE.out hgl1
                have a2' := HG2.out.below HBE.out hgl2
                have x0 := a1'.cell 0
                have x1 := a1'.cell 1
                have x2 := a1'.cell 2
                have x4 := a1'.cell 4
                have w0 := a2'.cell 0
                have w1 := a2'.cell 1
                have w2 := a2'.cell 2
                have w4 := a2'.cell 4
                simp only [List.getElem?_toArray, List.getElem?_cons_zero, List.getElem?_cons_succ] at x0 x1 x2 x4 w0 w1 w2 w4
                clear a1' a2'
                by_cases hlt : k < d
                · obtain ⟨x, hx⟩ := some_get (l := G.rules) (i := k) (by rw [HD.out]; exact hlt)
                  obtain ⟨p, hp, hpx⟩ : ∃ p, ql[k]? = some p ∧ p.1 = x := by
                    have h := hx
                    rw [← Q4.out, List.getElem?_map, Option.map_eq_some_iff] at h
                    exact h
                  obtain ⟨p', hp', hpx'⟩ : ∃ p, ql'[k]? = some p ∧ p.1 = x := by
                    have h := hx
                    rw [← R4.out, List.getElem?_map, Option.map_eq_some_iff] at h
                    exact h
                  obtain ⟨E1, d1, hv1, hl1⟩ := J4'.out p (List.mem_of_getElem? hp)
                  obtain ⟨E2, d2, hv2, hl2⟩ := N4'.out p' (List.mem_of_getElem? hp')
                  rw [hpx] at hv1 hl1
                  rw [hpx'] at hv2 hl2
                  have hm1 := HN2.out x (List.mem_of_getElem? hx)
                  have hv := fun j u (hj : j < 4) (hu : (ruleCells p)[j]? = some u) => flat_get ruleCells 4 (fun _ => rfl) ql k j p u hp hj hu
                  have hv' := fun j u (hj : j < 4) (hu : (ruleCells p')[j]? = some u) => flat_get ruleCells 4 (fun _ => rfl) ql' k j p' u hp' hj hu
                  obtain ⟨b1, o1, hA, hb1, f1⟩ := (L4.out.below (HBE.out.mono hBW)).ex (fun e => by have h := hv 0 _ (by omega) rfl; rw [show ql.flatMap ruleCells = rulesV ql from rfl, e] at h; simp at h)
                  obtain ⟨b2, o2, hB, hb2, f2⟩ := (P4.out.below (HBE.out.mono hBW)).ex (fun e => by have h := hv' 0 _ (by omega) rfl; rw [show ql'.flatMap ruleCells = rulesV ql' from rfl, e] at h; simp at h)
                  have hb1 : b1 < wr.heap.size := by omega
                  have hb2 : b2 < wr.heap.size := by omega
                  rw [hA] at x4
                  rw [hB] at w4
                  have y0 : wr.cell? ⟨b1, o1 + k * 4, none⟩ = some (.string (str p.1.left)) := f1 _ _ (hv 0 _ (by omega) rfl)
                  have y1 : wr.cell? ⟨b1, o1 + k * 4 + 1, none⟩ = some p.2 := by rw [Nat.add_assoc]; exact f1 _ _ (hv 1 _ (by omega) rfl)
                  have y2 : wr.cell? ⟨b1, o1 + k * 4 + 2, none⟩ = some (.string (str p.1.prec)) := by rw [Nat.add_assoc]; exact f1 _ _ (hv 2 _ (by omega) rfl)
                  have y3 : wr.cell? ⟨b1, o1 + k * 4 + 3, none⟩ = some (.string (str p.1.action)) := by rw [Nat.add_assoc]; exact f1 _ _ (hv 3 _ (by omega) rfl)
                  have z0 : wr.cell? ⟨b2, o2 + k * 4, none⟩ = some (.string (str p'.1.left)) := f2 _ _ (hv' 0 _ (by omega) rfl)
                  have z1 : wr.cell? ⟨b2, o2 + k * 4 + 1, none⟩ = some p'.2 := by rw [Nat.add_assoc]; exact f2 _ _ (hv' 1 _ (by omega) rfl)
                  have z2 : wr.cell? ⟨b2, o2 + k * 4 + 2, none⟩ = some (.string (str p'.1.prec)) := by rw [Nat.add_assoc]; exact f2 _ _ (hv' 2 _ (by omega) rfl)
                  have z3 : wr.cell? ⟨b2, o2 + k * 4 + 3, none⟩ = some (.string (str p'.1.action)) := by rw [Nat.add_assoc]; exact f2 _ _ (hv' 3 _ (by omega) rfl)
                  rw [hpx] at y0 y2 y3
                  rw [hpx'] at z0 z2 z3
                  rw [hv1] at y1
                  rw [hv2] at z1
                  have HL1 := Lib.hid (hl1.below (HBE.out.mono hBW))
                  have HL2 := Lib.hid (hl2.below (HBE.out.mono hBW))
                  clear hx hp hpx hp' hpx' hv1 hl1 hv2 hl2 hv hv' f1 f2 hA hB
                  generalize str x.left = X0 at y0 z0
                  generalize str x.prec = X2 at y2 z2
                  generalize str x.action = X3 at y3 z3
                  generalize x.right = XN at y1 z1 HL1 HL2 hm1
                  have hki : (k : Int) < (d : Int) := by omega
                  have hk0 : (0 : Int) ≤ (k : Int) := by omega
                  go_wp2_with fail
                  have hbn : Below wr.heap.size wr ((wr.alloc (.cells #[.string X0, .slice E1 XN.length d1, .string X2, .string X3] 30)).alloc (.cells #[.string X0, .slice E2 XN.length d2, .string X2, .string X3] 30)) := ((Below.refl _ _).alloc (Nat.le_refl _) _).alloc (by simp) _
                  refine (textsC_same _ _ _ _ XN B _ (HL1.out.below (hbn.mono (by omega))) (HL2.out.below (hbn.mono (by omega))) hm1).mono ?_
                  rintro e w9 ⟨rfl, nn, rfl⟩
                  have HBN := Lib.hid (HBE.out.trans (hbn.mono HBE.out.size))
                  clear hbn
                  go_wp2_with fail
                  go_roundw
                  case rel => exact ⟨k + 1, by omega, by go_num, below_drewN HBN.out _⟩
                  case measure => simp [intOf]; omega
                · obtain rfl : d = k := by omega
                  go_wp2_with fail
                  go_ret
                  exact ⟨rfl, HBW.out.trans (HBE.out.mono HBW.out.size)⟩

end Go.Proofs.YtgmihbfikggkjaaDoor

namespace Go.Proofs.YtgmihbfikggkjaaDoor
open Go.RowKit
open Lx
set_option linter.unusedVariables false
set_option linter.unusedSimpArgs false
set_option maxRecDepth 100000

namespace Pr
open Rd (Name Pat Tok Lev Rule G)
theorem sum_bound {α : Type} (f : α → Nat) (c : Nat) : ∀ l : List α, (∀ x ∈ l, f x ≤ c) → (l.map f).sum ≤ l.length * c
  | [], _ => by simp
  | x :: r, h => by
    have h1 := sum_bound f c r (fun y hy => h y (List.mem_cons_of_mem _ hy))
    have h2 := h x List.mem_cons_self
    simp only [List.map_cons, List.sum_cons, List.length_cons, Nat.add_mul, Nat.one_mul]
    omega
theorem names_le : ∀ l : List Name, l.length ≤ (l.map namN).sum
  | [] => by simp
  | x :: r => by
    have := names_le r
    simp only [List.map_cons, List.sum_cons, List.length_cons]
    unfold namN at *
    omega
theorem lvl_le (g : G) : (lvl g).length ≤ (g.levels.map levN).sum := by
  unfold lvl
  generalize g.levels = l
  induction l with
  | nil => simp
  | cons v r ih =>
    have := names_le v.names
    simp only [List.flatMap_cons, List.length_append, List.map_cons, List.sum_cons]
    unfold levN at *
    omega
theorem pat_small {p : Pat} (h : patOk p = true) : patN p ≤ 400 := by
  unfold patOk at h
  unfold patN
  by_cases h0 : p.text = []
  · rw [if_pos h0] at h; simp only [Bool.and_eq_true] at h; have := rises_len h.2; rw [h0]; simp; omega
  · rw [if_neg h0] at h; simp only [Bool.and_eq_true, decide_eq_true_eq, beq_iff_eq] at h; rw [h.2.1]; simp; omega
theorem tok_small {t : Tok} (h : tokOk t = true) : tokN t ≤ 500 := by
  unfold tokOk at h
  rw [Bool.and_eq_true] at h
  have h1 := name_len h.1
  have h2 := pat_small h.2
  unfold tokN
  unfold patN at h2
  omega
theorem nams_small {l : List Name} (h : ∀ n ∈ l, nameOk n = true) : (l.map namN).sum ≤ l.length * 40 :=
  sum_bound namN 40 l (fun n hn => by have := name_len (h n hn); unfold namN; omega)
theorem lev_small {v : Lev} (h : levOk v = true) (hs : v.names.length ≤ 140737488355328) : levN v ≤ 5629499534213120 := by
  unfold levOk at h
  simp only [Bool.and_eq_true, List.all_eq_true] at h
  have := nams_small h.2.2
  unfold levN
  omega
theorem rule_small {r : Rule} (h : ruleOk r = true) : rulN r ≤ 10000 := by
  unfold ruleOk at h
  simp only [Bool.and_eq_true, Bool.or_eq_true, decide_eq_true_eq, beq_iff_eq, List.all_eq_true] at h
  obtain ⟨k1, k2, k3, k4, k5⟩ := h
  have h1 := nams_small k3
  have h2 := name_len k1
  have h3 := action_len k5
  have h4 : r.prec.length ≤ 32 := by
    rcases k4 with h | h
    · rw [h]; simp
    · exact name_len h
  unfold rulN rulN0
  omega
theorem small_right {g : G} (hc : rightC g = true) (hs : ∀ v ∈ g.levels, v.names.length ≤ 140737488355328) : total g < 4611686018427387904 := by
  unfold rightC fitsB at hc
  simp only [Bool.and_eq_true, decide_eq_true_eq, List.all_eq_true] at hc
  obtain ⟨⟨f1, f2, f3, f4, f5⟩, f6, f7, f8, f9, f10⟩ := hc
  have h1 := sum_bound tokN 500 g.toks (fun t ht => tok_small (f7 t ht))
  have h2 := sum_bound patN 400 g.skips (fun t ht => pat_small (f8 t ht))
  have h3 := sum_bound levN 5629499534213120 g.levels (fun t ht => lev_small (f9 t ht) (hs t ht))
  have h4 := sum_bound rulN 10000 g.rules (fun t ht => rule_small (f10 t ht))
  unfold total cntN
  omega
theorem few_lvl {g : G} (h : fewB g = true) : (lvl g).length ≤ 1500 := by
  unfold fewB at h
  simp only [Bool.and_eq_true, decide_eq_true_eq] at h
  have h1 := lvl_le g
  have h2 := h.2
  unfold total at h2
  omega
end Pr

theorem gramC_form {w : World} {B : Nat} {v : Value} {G : Rd.G} (h : GramC w B v G) : ∃ E1 m1 f1 E2 m2 f2 E3 m3 f3 st E4 m4 f4, v = .agg #[.slice E1 m1 f1, .slice E2 m2 f2, .slice E3 m3 f3, .string st, .slice E4 m4 f4] := by
  obtain ⟨A1, c1, A2, c2, A3, c3, A4, c4, pl, ql, h0, _⟩ := h.ex
  exact ⟨_, _, _, _, _, _, _, _, _, _, _, _, _, h0⟩


end Go.Proofs.YtgmihbfikggkjaaDoor

namespace Go.Proofs.YtgmihbfikggkjaaDoor
open Go.RowKit
open Lx
set_option linter.unusedVariables false
set_option linter.unusedSimpArgs false
set_option maxRecDepth 100000

theorem ba_ne {x y : ByteArray} (h : x ≠ y) : (x.toList == y.toList) = false := by
  rw [toList_eq, toList_eq, beq_eq_false_iff_ne]; exact fun e => h (by rw [← str_bl x, ← str_bl y, e])
theorem ba_ne2 {x y : ByteArray} (h : x ≠ y) : (x.toList != y.toList) = true := by rw [bne, ba_ne h]; rfl
theorem str_inj {a b : List UInt8} (h : str a = str b) : a = b := by rw [← bl_str a, h, bl_str]
theorem pat_eq {x y : Rd.Pat} (h0 : x.text = y.text) (h1 : x.set = y.set) (h2 : x.many = y.many) : x = y := by
  cases x; cases y; simp only at h0 h1 h2; subst h0 h1 h2; rfl
theorem tok_eq {x y : Rd.Tok} (h : x.name = y.name) (h0 : x.pat.text = y.pat.text) (h1 : x.pat.set = y.pat.set) (h2 : x.pat.many = y.pat.many) : x = y := by
  have e := pat_eq h0 h1 h2
  cases x; cases y; simp only at h e; subst h e; rfl
theorem lev_eq {x y : Rd.Lev} (h0 : x.assoc = y.assoc) (h1 : x.names = y.names) : x = y := by
  cases x; cases y; simp only at h0 h1; subst h0 h1; rfl
theorem rule_eq {x y : Rd.Rule} (h0 : x.left = y.left) (h1 : x.right = y.right) (h2 : x.prec = y.prec) (h3 : x.action = y.action) : x = y := by
  cases x; cases y; simp only at h0 h1 h2 h3; subst h0 h1 h2 h3; rfl

theorem textsC_diff (A1 A2 : Option Addr) (c1 c2 : Nat) (l f : List Rd.Name) (B : Nat) (w : World) (h1 : Cl w B A1 (namesV l)) (h2 : Cl w B A2 (namesV f)) (hl : l.length ≤ 1000000) (hl2 : f.length ≤ 1000000) (hne : l ≠ f) :
    Calls Tryd.prog 16 #[.slice A1 l.length c1, .slice A2 f.length c2] w fun e w' => e = .returned (.bool false) ∧ ∃ n, w' = w.drewN n := by
  have H1 := Lib.hid h1
  have H2 := Lib.hid h2
  have HNE := Lib.hid hne
  obtain ⟨n, hn⟩ : ∃ n, l.length = n := ⟨_, rfl⟩
  obtain ⟨n', hn'⟩ : ∃ n, f.length = n := ⟨_, rfl⟩
  rw [hn] at hl ⊢
  rw [hn'] at hl2 ⊢
  have HN := Lib.hid hn
  have HN' := Lib.hid hn'
  clear h1 h2 hn hn' hne
  by_cases en : n = n'
  rotate_left
  · have t1 : ((n : Int) == (n' : Int)) = false := by rw [beq_eq_false_iff_ne]; omega
    have t2 : ((n : Int) != (n' : Int)) = true := by rw [bne_iff_ne]; omega
    have t3 : ¬ (n : Int) = (n' : Int) := by omega
    go_enter Tryd.func16, Tryd.ntmps16
    go_wp2_with fail
    go_ret
    exact ⟨rfl, 0, rfl⟩
  subst en
  go_enter Tryd.func16, Tryd.ntmps16
  go_wp2_with fail
  go_loopw [5] (fun i wr => ∃ (k m : Nat), k ≤ n ∧ i = .int .i64 (k : Int) ∧ wr = w.drewN m ∧ Hid (l.take k = f.take k)) (fun i _ => n - (intOf i).toNat)
  case atStart => exact ⟨0, 0, by omega, rfl, rfl, Lib.hid rfl⟩
  case round =>
    obtain ⟨k, m, hk, rfl, rfl, HTK⟩ := hrel
    by_cases hlt : k < n
    · obtain ⟨x, hx⟩ := some_get (l := l) (i := k) (by rw [HN.out]; exact hlt)
      obtain ⟨y, hy⟩ := some_get (l := f) (i := k) (by rw [HN'.out]; exact hlt)
      have hv : (namesV l)[k]? = some (.string (str x)) := by simp [namesV, hx]
      have hv' : (namesV f)[k]? = some (.string (str y)) := by simp [namesV, hy]
      obtain ⟨b1, o1, rfl, _, f1⟩ := H1.out.ex (fun e => by rw [e] at hv; simp at hv)
      obtain ⟨b2, o2, rfl, _, f2⟩ := H2.out.ex (fun e => by rw [e] at hv'; simp at hv')
      have cc : w.cell? ⟨b1, o1 + k, none⟩ = some (.string (str x)) := f1 _ _ hv
      have dd : w.cell? ⟨b2, o2 + k, none⟩ = some (.string (str y)) := f2 _ _ hv'
      have hi : str x = str y → l.take (k + 1) = f.take (k + 1) := fun q => by rw [List.take_add_one, List.take_add_one, hx, hy, HTK.out, str_inj q]
      have HI := Lib.hid hi
      clear hx hy hv hv' f1 f2 hi
      generalize str x = X0 at cc HI
      generalize str y = Y0 at dd HI
      have hki : (k : Int) < (n : Int) := by omega
      have hk0 : (0 : Int) ≤ (k : Int) := by omega
      by_cases q : X0 = Y0
      · subst q
        have HE := Lib.hid (HI.out rfl)
        clear HI
        have t1 : (X0.toList == X0.toList) = true := by simp
        have t2 : (X0.toList != X0.toList) = false := by simp
        go_wp2_with fail
        go_quiet (fail)
        go_wp2_with fail
        go_roundw
        case rel => exact ⟨k + 1, _, by omega, by go_num, rfl, HE⟩
        case measure => simp [intOf]; omega
      · have t1 := ba_ne q
        have t2 := ba_ne2 q
        clear q
        go_wp2_with fail
        go_quiet (fail)
        go_wp2_with fail
        go_ret
        exact ⟨rfl, _, by rw [World.drewN_drewN]⟩
    · obtain rfl : n = k := by omega
      exact absurd (by have h := HTK.out; rwa [List.take_of_length_le (by rw [HN.out]; exact Nat.le_refl _), List.take_of_length_le (by rw [HN'.out]; exact Nat.le_refl _)] at h) HNE.out

set_option maxHeartbeats 4000000 in
theorem differ_any (v1 v2 : Value) (G F : Rd.G) (B : Nat) (w : World) (h1 : GramC w B v1 G) (h2 : GramC w B v2 F) (hB : B ≤ w.heap.size) (ha : ∀ x ∈ G.levels, 1 ≤ x.assoc) (ha2 : ∀ x ∈ F.levels, 1 ≤ x.assoc) (hgf : G ≠ F) (hs : G.toks.length ≤ 1000000 ∧ G.skips.length ≤ 1000000 ∧ G.levels.length ≤ 1000000 ∧ G.rules.length ≤ 1000000) (hs2 : F.toks.length ≤ 1000000 ∧ F.skips.length ≤ 1000000 ∧ F.levels.length ≤ 1000000 ∧ F.rules.length ≤ 1000000) (hn1 : ∀ l ∈ G.levels, l.names.length ≤ 1000000) (hn2 : ∀ r ∈ G.rules, r.right.length ≤ 1000000) (hn3 : ∀ l ∈ F.levels, l.names.length ≤ 1000000) (hn4 : ∀ r ∈ F.rules, r.right.length ≤ 1000000) :
    Calls Tryd.prog 9 #[v1, v2] w fun e w' => e = .returned (.bool false) ∧ Below w.heap.size w w' := by
  obtain ⟨A1, c1, A2, c2, A3, c3, A4, c4, pl, ql, rfl, k1, k2, k3, q3, j3, k4, q4, j4⟩ := h1.ex
  obtain ⟨B1, e1, B2, e2, B3, e3, B4, e4, pl', ql', rfl, m1, m2, m3, r3, n3, m4, r4, n4⟩ := h2.ex
  have K1 := Lib.hid k1
  have K2 := Lib.hid k2
  have K3 := Lib.hid k3
  have K4 := Lib.hid k4
  have M1 := Lib.hid m1
  have M2 := Lib.hid m2
  have M3 := Lib.hid m3
  have M4 := Lib.hid m4
  have Q3 := Lib.hid q3
  have Q4 := Lib.hid q4
  have R3 := Lib.hid r3
  have R4 := Lib.hid r4
  have J3 := Lib.hid j3
  have J4 := Lib.hid j4
  have N3 := Lib.hid n3
  have N4 := Lib.hid n4
  have HN1 := Lib.hid hn1
  have HAS := Lib.hid ha
  have HAS2 := Lib.hid ha2
  have HN3 := Lib.hid hn3
  have HN4 := Lib.hid hn4
  have HN2 := Lib.hid hn2
  have hbl : ∀ k : Nat, ((k : Int) != (k : Int)) = false := fun k => by simp
  obtain ⟨s1, s2, s3, s4⟩ := hs
  obtain ⟨s5, s6, s7, s8⟩ := hs2
  obtain ⟨a, haa⟩ : ∃ a, G.toks.length = a := ⟨_, rfl⟩
  obtain ⟨b, hb⟩ : ∃ b, G.skips.length = b := ⟨_, rfl⟩
  obtain ⟨c, hc⟩ : ∃ c, G.levels.length = c := ⟨_, rfl⟩
  obtain ⟨d, hd⟩ : ∃ d, G.rules.length = d := ⟨_, rfl⟩
  obtain ⟨a', haa'⟩ : ∃ a, F.toks.length = a := ⟨_, rfl⟩
  obtain ⟨b', hb'⟩ : ∃ b, F.skips.length = b := ⟨_, rfl⟩
  obtain ⟨c', hc'⟩ : ∃ c, F.levels.length = c := ⟨_, rfl⟩
  obtain ⟨d', hd'⟩ : ∃ d, F.rules.length = d := ⟨_, rfl⟩
  rw [haa] at s1 ⊢
  rw [hb] at s2 ⊢
  rw [hc] at s3 ⊢
  rw [hd] at s4 ⊢
  rw [haa'] at s5 ⊢
  rw [hb'] at s6 ⊢
  rw [hc'] at s7 ⊢
  rw [hd'] at s8 ⊢
  have HA := Lib.hid haa
  have HB := Lib.hid hb
  have HC := Lib.hid hc
  have HD := Lib.hid hd
  have HA' := Lib.hid haa'
  have HB' := Lib.hid hb'
  have HC' := Lib.hid hc'
  have HD' := Lib.hid hd'
  have HGF := Lib.hid hgf
  have HST := Lib.hid (show str G.start = str F.start → G.start = F.start from fun h => by rw [← bl_str G.start, h, bl_str])
  obtain ⟨st, hst⟩ : ∃ st, str G.start = st := ⟨_, rfl⟩
  obtain ⟨st', hst'⟩ : ∃ st, str F.start = st := ⟨_, rfl⟩
  rw [hst, hst'] at HST
  rw [hst, hst']
  clear ha ha2 hgf h1 h2 k1 k2 k3 k4 m1 m2 m3 m4 q3 q4 r3 r4 j3 j4 n3 n4 hn1 hn2 hn3 hn4 haa hb hc hd haa' hb' hc' hd' hst hst'
  have HB00 := Lib.hid (show Below w.heap.size w ((w.alloc (.cells #[.slice A1 a c1, .slice A2 b c2, .slice A3 c c3, .string st, .slice A4 d c4] 35)).alloc (.cells #[.slice B1 a' e1, .slice B2 b' e2, .slice B3 c' e3, .string st', .slice B4 d' e4] 35)) from ((Below.refl _ _).alloc (Nat.le_refl _) _).alloc (by simp) _)
  by_cases e1' : a = a'
  rotate_left
  · skip
    have t1 : (((a : Int)) == ((a' : Int))) = false := by rw [beq_eq_false_iff_ne]; omega
    have t2 : (((a : Int)) != ((a' : Int))) = true := by rw [bne_iff_ne]; omega
    have t3 : ¬ ((a : Int)) = ((a' : Int)) := by omega
    go_enter Tryd.func9, Tryd.ntmps9
    go_wp2_with fail
    go_ret
    exact ⟨rfl, HB00.out⟩
  subst e1'
  by_cases e2' : b = b'
  rotate_left
  · skip
    have t1 : (((b : Int)) == ((b' : Int))) = false := by rw [beq_eq_false_iff_ne]; omega
    have t2 : (((b : Int)) != ((b' : Int))) = true := by rw [bne_iff_ne]; omega
    have t3 : ¬ ((b : Int)) = ((b' : Int)) := by omega
    go_enter Tryd.func9, Tryd.ntmps9
    go_wp2_with fail
    go_ret
    exact ⟨rfl, HB00.out⟩
  subst e2'
  by_cases e3' : c = c'
  rotate_left
  · skip
    have t1 : (((c : Int)) == ((c' : Int))) = false := by rw [beq_eq_false_iff_ne]; omega
    have t2 : (((c : Int)) != ((c' : Int))) = true := by rw [bne_iff_ne]; omega
    have t3 : ¬ ((c : Int)) = ((c' : Int)) := by omega
    go_enter Tryd.func9, Tryd.ntmps9
    go_wp2_with fail
    go_ret
    exact ⟨rfl, HB00.out⟩
  subst e3'
  by_cases e4' : st = st'
  rotate_left
  · have t1 : (st.toList == st'.toList) = false := by rw [toList_eq, toList_eq, beq_eq_false_iff_ne]; exact fun h => e4' (by rw [← str_bl st, ← str_bl st', h])
    have t2 : (st.toList != st'.toList) = true := by rw [bne, t1]; rfl
    clear HB00
    have HB00 := Lib.hid (show Below w.heap.size w ((w.alloc (.cells #[.slice A1 a c1, .slice A2 b c2, .slice A3 c c3, .string st, .slice A4 d c4] 35)).alloc (.cells #[.slice B1 a e1, .slice B2 b e2, .slice B3 c e3, .string st', .slice B4 d' e4] 35)) from ((Below.refl _ _).alloc (Nat.le_refl _) _).alloc (by simp) _)
    go_enter Tryd.func9, Tryd.ntmps9
    go_wp2_with fail
    go_ret
    exact ⟨rfl, HB00.out⟩
  subst e4'
  by_cases e5' : d = d'
  rotate_left
  · have u1' : (st.toList != st.toList) = false := by simp
    have u2' : (st.toList == st.toList) = true := by simp
    have t1 : (((d : Int)) == ((d' : Int))) = false := by rw [beq_eq_false_iff_ne]; omega
    have t2 : (((d : Int)) != ((d' : Int))) = true := by rw [bne_iff_ne]; omega
    have t3 : ¬ ((d : Int)) = ((d' : Int)) := by omega
    go_enter Tryd.func9, Tryd.ntmps9
    go_wp2_with fail
    go_ret
    exact ⟨rfl, HB00.out⟩
  subst e5'
  have HEQ := Lib.hid (show G.toks = F.toks → G.skips = F.skips → G.levels = F.levels → G.rules = F.rules → False from fun z1 z2 z3 z4 => by
    have z5 := HST.out rfl
    refine HGF.out ?_
    obtain ⟨g1, g2, g3, g4, g5⟩ := G
    obtain ⟨f1, f2, f3, f4, f5⟩ := F
    simp only at z1 z2 z3 z4 z5
    subst z1 z2 z3 z4 z5
    rfl)
  clear HST HGF HB00
  go_enter Tryd.func9, Tryd.ntmps9
  have hbw : Below w.heap.size w ((w.alloc (.cells #[.slice A1 a c1, .slice A2 b c2, .slice A3 c c3, .string st, .slice A4 d c4] 35)).alloc (.cells #[.slice B1 a e1, .slice B2 b e2, .slice B3 c e3, .string st, .slice B4 d e4] 35)) := ((Below.refl _ _).alloc (Nat.le_refl _) _).alloc (by simp) _
  have hg1 := (At.new w 35 #[.slice A1 a c1, .slice A2 b c2, .slice A3 c c3, .string st, .slice A4 d c4]).alloc (.cells #[.slice B1 a e1, .slice B2 b e2, .slice B3 c e3, .string st, .slice B4 d e4] 35)
  have hg2 := At.new (w.alloc (.cells #[.slice A1 a c1, .slice A2 b c2, .slice A3 c c3, .string st, .slice A4 d c4] 35)) 35 #[.slice B1 a e1, .slice B2 b e2, .slice B3 c e3, .string st, .slice B4 d e4]
  have hg2' : At ((w.alloc (.cells #[.slice A1 a c1, .slice A2 b c2, .slice A3 c c3, .string st, .slice A4 d c4] 35)).alloc (.cells #[.slice B1 a e1, .slice B2 b e2, .slice B3 c e3, .string st, .slice B4 d e4] 35)) (w.heap.size + 1) 35 #[.slice B1 a e1, .slice B2 b e2, .slice B3 c e3, .string st, .slice B4 d e4] := by simpa using hg2
  have u1 : (st.toList != st.toList) = false := by simp
  have u2 : (st.toList == st.toList) = true := by simp
  have u3 : ∀ k : Nat, ((k : Int) != (k : Int)) = false := fun k => by simp
  go_wp2_with fail
  obtain ⟨W, hW⟩ : ∃ W, (w.alloc (.cells #[.slice A1 a c1, .slice A2 b c2, .slice A3 c c3, .string st, .slice A4 d c4] 35)).alloc (.cells #[.slice B1 a e1, .slice B2 b e2, .slice B3 c e3, .string st, .slice B4 d e4] 35) = W := ⟨_, rfl⟩
  obtain ⟨g1, hge1⟩ : ∃ g1, w.heap.size = g1 := ⟨_, rfl⟩
  rw [hW] at hbw hg1 hg2' ⊢
  rw [hge1] at hg1 hg2' ⊢
  obtain ⟨g2, hge2⟩ : ∃ g2, g1 + 1 = g2 := ⟨_, rfl⟩
  rw [hge2] at hg2' ⊢
  have hBW : B ≤ W.heap.size := Nat.le_trans hB hbw.size
  have HG1 := Lib.hid hg1
  have HG2 := Lib.hid hg2'
  have HBW := Lib.hid hbw
  have L1 := Lib.hid (K1.out.below (hbw.mono hB))
  have L2 := Lib.hid (K2.out.below (hbw.mono hB))
  have L3 := Lib.hid (K3.out.below (hbw.mono hB))
  have L4 := Lib.hid (K4.out.below (hbw.mono hB))
  have P1 := Lib.hid (M1.out.below (hbw.mono hB))
  have P2 := Lib.hid (M2.out.below (hbw.mono hB))
  have P3 := Lib.hid (M3.out.below (hbw.mono hB))
  have P4 := Lib.hid (M4.out.below (hbw.mono hB))
  have J3' := Lib.hid (show ∀ p ∈ pl, NmC W B p.2.1 p.1.names from fun p hp => (J3.out p hp).2.below (hbw.mono hB))
  have J4' := Lib.hid (show ∀ p ∈ ql, NmC W B p.2 p.1.right from fun p hp => (J4.out p hp).below (hbw.mono hB))
  have N3' := Lib.hid (show ∀ p ∈ pl', NmC W B p.2.1 p.1.names from fun p hp => (N3.out p hp).2.below (hbw.mono hB))
  have N4' := Lib.hid (show ∀ p ∈ ql', NmC W B p.2 p.1.right from fun p hp => (N4.out p hp).below (hbw.mono hB))
  have hgl1 := hg1.lt
  have hgl2 := hg2'.lt
  clear hW hge1 hge2 hg1 hg2 hg2' hbw K1 K2 K3 K4 M1 M2 M3 M4 J4 N4
  go_loopw [5] (fun i wr => ∃ k : Nat, k ≤ a ∧ i = .int .i64 (k : Int) ∧ Below W.heap.size W wr ∧ Hid (G.toks.take k = F.toks.take k)) (fun i _ => a - (intOf i).toNat)
  case atStart => exact ⟨0, by omega, rfl, Below.refl _ _, Lib.hid rfl⟩
  case round =>
    obtain ⟨k, hk, rfl, hbe, HTK⟩ := hrel
    have HBE := Lib.hid hbe
    clear hbe
    have hs9 := HBE.out.size
    have hl9 : g1 < wr.heap.size := by omega
    have hl8 : g2 < wr.heap.size := by omega
    have a1' := HG1.out.below HBE.out hgl1
    have a2' := HG2.out.below HBE.out hgl2
    have x0 := a1'.cell 0
    have x1 := a1'.cell 1
    have x2 := a1'.cell 2
    have x4 := a1'.cell 4
    have w0 := a2'.cell 0
    have w1 := a2'.cell 1
    have w2 := a2'.cell 2
    have w4 := a2'.cell 4
    simp only [List.getElem?_toArray, List.getElem?_cons_zero, List.getElem?_cons_succ] at x0 x1 x2 x4 w0 w1 w2 w4
    clear a1' a2'
    by_cases hlt : k < a
    · obtain ⟨x, hx⟩ := some_get (l := G.toks) (i := k) (by rw [HA.out]; exact hlt)
      obtain ⟨x', hx'⟩ := some_get (l := F.toks) (i := k) (by rw [HA'.out]; exact hlt)
      have hv := fun j u (hj : j < 4) (hu : x.cells[j]? = some u) => flat_get Rd.Tok.cells 4 (fun _ => rfl) G.toks k j x u hx hj hu
      have hv' := fun j u (hj : j < 4) (hu : x'.cells[j]? = some u) => flat_get Rd.Tok.cells 4 (fun _ => rfl) F.toks k j x' u hx' hj hu
      have hne : toksV G.toks ≠ [] := fun e => by
        have h : (toksV G.toks)[k * 4 + 0]? = some (.string (str x.name)) := hv 0 _ (by omega) rfl
        rw [e] at h; simp at h
      have hne' : toksV F.toks ≠ [] := fun e => by
        have h : (toksV F.toks)[k * 4 + 0]? = some (.string (str x'.name)) := hv' 0 _ (by omega) rfl
        rw [e] at h; simp at h
      obtain ⟨b1, o1, hA, hb1, f1⟩ := (L1.out.below (HBE.out.mono hBW)).ex hne
      obtain ⟨b2, o2, hB, hb2, f2⟩ := (P1.out.below (HBE.out.mono hBW)).ex hne'
      have hb1 : b1 < wr.heap.size := by omega
      have hb2 : b2 < wr.heap.size := by omega
      (try rw [hA] at x0)
      (try rw [hA] at x1)
      (try rw [hA] at x2)
      (try rw [hA] at x4)
      (try rw [hB] at w0)
      (try rw [hB] at w1)
      (try rw [hB] at w2)
      (try rw [hB] at w4)
      have y0 : wr.cell? ⟨b1, o1 + k * 4, none⟩ = some (.string (str x.name)) := f1 _ _ (hv 0 _ (by omega) rfl)
      have z0 : wr.cell? ⟨b2, o2 + k * 4, none⟩ = some (.string (str x'.name)) := f2 _ _ (hv' 0 _ (by omega) rfl)
      have y1 : wr.cell? ⟨b1, o1 + k * 4 + 1, none⟩ = some (.string (str x.pat.text)) := by rw [Nat.add_assoc]; exact f1 _ _ (hv 1 _ (by omega) rfl)
      have z1 : wr.cell? ⟨b2, o2 + k * 4 + 1, none⟩ = some (.string (str x'.pat.text)) := by rw [Nat.add_assoc]; exact f2 _ _ (hv' 1 _ (by omega) rfl)
      have y2 : wr.cell? ⟨b1, o1 + k * 4 + 2, none⟩ = some (.string (str x.pat.set)) := by rw [Nat.add_assoc]; exact f1 _ _ (hv 2 _ (by omega) rfl)
      have z2 : wr.cell? ⟨b2, o2 + k * 4 + 2, none⟩ = some (.string (str x'.pat.set)) := by rw [Nat.add_assoc]; exact f2 _ _ (hv' 2 _ (by omega) rfl)
      have y3 : wr.cell? ⟨b1, o1 + k * 4 + 3, none⟩ = some (.bool x.pat.many) := by rw [Nat.add_assoc]; exact f1 _ _ (hv 3 _ (by omega) rfl)
      have z3 : wr.cell? ⟨b2, o2 + k * 4 + 3, none⟩ = some (.bool x'.pat.many) := by rw [Nat.add_assoc]; exact f2 _ _ (hv' 3 _ (by omega) rfl)
      have hi : str x.name = str x'.name → str x.pat.text = str x'.pat.text → str x.pat.set = str x'.pat.set → x.pat.many = x'.pat.many → G.toks.take (k + 1) = F.toks.take (k + 1) := fun q0 q1 q2 q3 => by
        have e : x = x' := tok_eq (str_inj q0) (str_inj q1) (str_inj q2) q3
        rw [List.take_add_one, List.take_add_one, hx, hx', HTK.out, e]
      clear hx hx' hv hv' hne hne' f1 f2 hA hB
      generalize str x.name = X0 at y0 hi
      generalize str x'.name = Y0 at z0 hi
      generalize str x.pat.text = X1 at y1 hi
      generalize str x'.pat.text = Y1 at z1 hi
      generalize str x.pat.set = X2 at y2 hi
      generalize str x'.pat.set = Y2 at z2 hi
      generalize x.pat.many = X3 at y3 hi
      generalize x'.pat.many = Y3 at z3 hi
      have HI := Lib.hid hi
      clear hi
      have hki : (k : Int) < (a : Int) := by omega
      have hk0 : (0 : Int) ≤ (k : Int) := by omega
      by_cases q0 : X0 = Y0
      rotate_left
      · have t1 := ba_ne q0
        have t2 := ba_ne2 q0
        clear q0
        go_wp2_with fail
        go_quiet (fail)
        go_wp2_with fail
        go_ret
        exact ⟨rfl, HBW.out.trans ((below_drewN HBE.out _).mono HBW.out.size)⟩
      subst q0
      by_cases q1 : X1 = Y1
      rotate_left
      · have t1 := ba_ne q1
        have t2 := ba_ne2 q1
        clear q1
        go_wp2_with fail
        go_quiet (fail)
        go_wp2_with fail
        go_ret
        exact ⟨rfl, HBW.out.trans ((below_drewN HBE.out _).mono HBW.out.size)⟩
      subst q1
      by_cases q2 : X2 = Y2
      rotate_left
      · have t1 := ba_ne q2
        have t2 := ba_ne2 q2
        clear q2
        go_wp2_with fail
        go_quiet (fail)
        go_wp2_with fail
        go_ret
        exact ⟨rfl, HBW.out.trans ((below_drewN HBE.out _).mono HBW.out.size)⟩
      subst q2
      by_cases q3 : X3 = Y3
      rotate_left
      · have t1 : (X3 == Y3) = false := by simpa using q3
        have t2 : (X3 != Y3) = true := by simpa using q3
        clear q3
        go_wp2_with fail
        go_quiet (fail)
        go_wp2_with fail
        go_ret
        exact ⟨rfl, HBW.out.trans ((below_drewN HBE.out _).mono HBW.out.size)⟩
      subst q3
      have HE := Lib.hid (HI.out rfl rfl rfl rfl)
      clear HI
      go_wp2_with fail
      go_quiet (fail)
      go_wp2_with fail
      go_roundw
      case rel => exact ⟨k + 1, by omega, by go_num, below_drewN HBE.out _, HE⟩
      case measure => simp [intOf]; omega
    · obtain rfl : a = k := by omega
      have HE_a := Lib.hid (show G.toks = F.toks by have h := HTK.out; rwa [List.take_of_length_le (by rw [HA.out]; exact Nat.le_refl _), List.take_of_length_le (by rw [HA'.out]; exact Nat.le_refl _)] at h)
      go_wp2_with fail
      clear x0 x1 x2 x4 w0 w1 w2 w4 hs9 hl8 hl9
      go_loopw [6] (fun i wr' => ∃ k : Nat, k ≤ b ∧ i = .int .i64 (k : Int) ∧ Below W.heap.size W wr' ∧ Hid (G.skips.take k = F.skips.take k)) (fun i _ => b - (intOf i).toNat)
      case atStart => exact ⟨0, by omega, rfl, HBE.out, Lib.hid rfl⟩
      case round =>
        clear HBE
        rename_i wr0
        obtain ⟨k, hk, rfl, hbe, HTK⟩ := hrel
        have HBE := Lib.hid hbe
        clear hbe
        have hs9 := HBE.out.size
        have hl9 : g1 < wr.heap.size := by omega
        have hl8 : g2 < wr.heap.size := by omega
        have a1' := HG1.out.below HBE.out hgl1
        have a2' := HG2.out.below HBE.out hgl2
        have x0 := a1'.cell 0
        have x1 := a1'.cell 1
        have x2 := a1'.cell 2
        have x4 := a1'.cell 4
        have w0 := a2'.cell 0
        have w1 := a2'.cell 1
        have w2 := a2'.cell 2
        have w4 := a2'.cell 4
        simp only [List.getElem?_toArray, List.getElem?_cons_zero, List.getElem?_cons_succ] at x0 x1 x2 x4 w0 w1 w2 w4
        clear a1' a2'
        by_cases hlt : k < b
        · obtain ⟨x, hx⟩ := some_get (l := G.skips) (i := k) (by rw [HB.out]; exact hlt)
          obtain ⟨x', hx'⟩ := some_get (l := F.skips) (i := k) (by rw [HB'.out]; exact hlt)
          have hv := fun j u (hj : j < 3) (hu : x.cells[j]? = some u) => flat_get Rd.Pat.cells 3 (fun _ => rfl) G.skips k j x u hx hj hu
          have hv' := fun j u (hj : j < 3) (hu : x'.cells[j]? = some u) => flat_get Rd.Pat.cells 3 (fun _ => rfl) F.skips k j x' u hx' hj hu
          have hne : patsV G.skips ≠ [] := fun e => by
            have h : (patsV G.skips)[k * 3 + 0]? = some (.string (str x.text)) := hv 0 _ (by omega) rfl
            rw [e] at h; simp at h
          have hne' : patsV F.skips ≠ [] := fun e => by
            have h : (patsV F.skips)[k * 3 + 0]? = some (.string (str x'.text)) := hv' 0 _ (by omega) rfl
            rw [e] at h; simp at h
          obtain ⟨b1, o1, hA, hb1, f1⟩ := (L2.out.below (HBE.out.mono hBW)).ex hne
          obtain ⟨b2, o2, hB, hb2, f2⟩ := (P2.out.below (HBE.out.mono hBW)).ex hne'
          have hb1 : b1 < wr.heap.size := by omega
          have hb2 : b2 < wr.heap.size := by omega
          (try rw [hA] at x0)
          (try rw [hA] at x1)
          (try rw [hA] at x2)
          (try rw [hA] at x4)
          (try rw [hB] at w0)
          (try rw [hB] at w1)
          (try rw [hB] at w2)
          (try rw [hB] at w4)
          have y0 : wr.cell? ⟨b1, o1 + k * 3, none⟩ = some (.string (str x.text)) := f1 _ _ (hv 0 _ (by omega) rfl)
          have z0 : wr.cell? ⟨b2, o2 + k * 3, none⟩ = some (.string (str x'.text)) := f2 _ _ (hv' 0 _ (by omega) rfl)
          have y1 : wr.cell? ⟨b1, o1 + k * 3 + 1, none⟩ = some (.string (str x.set)) := by rw [Nat.add_assoc]; exact f1 _ _ (hv 1 _ (by omega) rfl)
          have z1 : wr.cell? ⟨b2, o2 + k * 3 + 1, none⟩ = some (.string (str x'.set)) := by rw [Nat.add_assoc]; exact f2 _ _ (hv' 1 _ (by omega) rfl)
          have y2 : wr.cell? ⟨b1, o1 + k * 3 + 2, none⟩ = some (.bool x.many) := by rw [Nat.add_assoc]; exact f1 _ _ (hv 2 _ (by omega) rfl)
          have z2 : wr.cell? ⟨b2, o2 + k * 3 + 2, none⟩ = some (.bool x'.many) := by rw [Nat.add_assoc]; exact f2 _ _ (hv' 2 _ (by omega) rfl)
          have hi : str x.text = str x'.text → str x.set = str x'.set → x.many = x'.many → G.skips.take (k + 1) = F.skips.take (k + 1) := fun q0 q1 q2 => by
            have e : x = x' := pat_eq (str_inj q0) (str_inj q1) q2
            rw [List.take_add_one, List.take_add_one, hx, hx', HTK.out, e]
          clear hx hx' hv hv' hne hne' f1 f2 hA hB
          generalize str x.text = X0 at y0 hi
          generalize str x'.text = Y0 at z0 hi
          generalize str x.set = X1 at y1 hi
          generalize str x'.set = Y1 at z1 hi
          generalize x.many = X2 at y2 hi
          generalize x'.many = Y2 at z2 hi
          have HI := Lib.hid hi
          clear hi
          have hki : (k : Int) < (b : Int) := by omega
          have hk0 : (0 : Int) ≤ (k : Int) := by omega
          by_cases q0 : X0 = Y0
          rotate_left
          · have t1 := ba_ne q0
            have t2 := ba_ne2 q0
            clear q0
            go_wp2_with fail
            go_quiet (fail)
            go_wp2_with fail
            go_ret
            exact ⟨rfl, HBW.out.trans ((below_drewN HBE.out _).mono HBW.out.size)⟩
          subst q0
          by_cases q1 : X1 = Y1
          rotate_left
          · have t1 := ba_ne q1
            have t2 := ba_ne2 q1
            clear q1
            go_wp2_with fail
            go_quiet (fail)
            go_wp2_with fail
            go_ret
            exact ⟨rfl, HBW.out.trans ((below_drewN HBE.out _).mono HBW.out.size)⟩
          subst q1
          by_cases q2 : X2 = Y2
          rotate_left
          · have t1 : (X2 == Y2) = false := by simpa using q2
            have t2 : (X2 != Y2) = true := by simpa using q2
            clear q2
            go_wp2_with fail
            go_quiet (fail)
            go_wp2_with fail
            go_ret
            exact ⟨rfl, HBW.out.trans ((below_drewN HBE.out _).mono HBW.out.size)⟩
          subst q2
          have HE := Lib.hid (HI.out rfl rfl rfl)
          clear HI
          go_wp2_with fail
          go_quiet (fail)
          go_wp2_with fail
          go_roundw
          case rel => exact ⟨k + 1, by omega, by go_num, below_drewN HBE.out _, HE⟩
          case measure => simp [intOf]; omega
        · obtain rfl : b = k := by omega
          have HE_b := Lib.hid (show G.skips = F.skips by have h := HTK.out; rwa [List.take_of_length_le (by rw [HB.out]; exact Nat.le_refl _), List.take_of_length_le (by rw [HB'.out]; exact Nat.le_refl _)] at h)
          go_wp2_with fail
          clear x0 x1 x2 x4 w0 w1 w2 w4 hs9 hl8 hl9
          go_loopw [7] (fun i wr' => ∃ k : Nat, k ≤ c ∧ i = .int .i64 (k : Int) ∧ Below W.heap.size W wr' ∧ Hid (G.levels.take k = F.levels.take k)) (fun i _ => c - (intOf i).toNat)
          case atStart => exact ⟨0, by omega, rfl, HBE.out, Lib.hid rfl⟩
          case round =>
            clear HBE
            rename_i wr1
            obtain ⟨k, hk, rfl, hbe, HTK⟩ := hrel
            have HBE := Lib.hid hbe
            clear hbe
            have hs9 := HBE.out.size
            have hl9 : g1 < wr.heap.size := by omega
            have hl8 : g2 < wr.heap.size := by omega
            have a1' := HG1.out.below HBE.out hgl1
            have a2' := HG2.out.below HBE.out hgl2
            have x0 := a1'.cell 0
            have x1 := a1'.cell 1
            have x2 := a1'.cell 2
            have x4 := a1'.cell 4
            have w0 := a2'.cell 0
            have w1 := a2'.cell 1
            have w2 := a2'.cell 2
            have w4 := a2'.cell 4
            simp only [List.getElem?_toArray, List.getElem?_cons_zero, List.getElem?_cons_succ] at x0 x1 x2 x4 w0 w1 w2 w4
            clear a1' a2'
            by_cases hlt : k < c
            · obtain ⟨p, hp⟩ := some_get (l := pl) (i := k) (by rw [← List.length_map (f := (·.1)), Q3.out, HC.out]; exact hlt)
              obtain ⟨p', hp'⟩ := some_get (l := pl') (i := k) (by rw [← List.length_map (f := (·.1)), R3.out, HC'.out]; exact hlt)
              have hx : G.levels[k]? = some p.1 := by rw [← Q3.out, List.getElem?_map, hp]; rfl
              have hx' : F.levels[k]? = some p'.1 := by rw [← R3.out, List.getElem?_map, hp']; rfl
              obtain ⟨E1, d1, hv1, hl1⟩ := J3'.out p (List.mem_of_getElem? hp)
              obtain ⟨E2, d2, hv2, hl2⟩ := N3'.out p' (List.mem_of_getElem? hp')
              have hm1 := HN1.out p.1 (List.mem_of_getElem? hx)
              have hm2 := HN3.out p'.1 (List.mem_of_getElem? hx')
              have hv := fun j u (hj : j < 2) (hu : (levC p)[j]? = some u) => flat_get levC 2 (fun _ => rfl) pl k j p u hp hj hu
              have hv' := fun j u (hj : j < 2) (hu : (levC p')[j]? = some u) => flat_get levC 2 (fun _ => rfl) pl' k j p' u hp' hj hu
              obtain ⟨b1, o1, hA, hb1, f1⟩ := (L3.out.below (HBE.out.mono hBW)).ex (fun e => by have h := hv 0 _ (by omega) rfl; rw [show pl.flatMap levC = levsC pl from rfl, e] at h; simp at h)
              obtain ⟨b2, o2, hB, hb2, f2⟩ := (P3.out.below (HBE.out.mono hBW)).ex (fun e => by have h := hv' 0 _ (by omega) rfl; rw [show pl'.flatMap levC = levsC pl' from rfl, e] at h; simp at h)
              have hb1 : b1 < wr.heap.size := by omega
              have hb2 : b2 < wr.heap.size := by omega
              rw [hA] at x2
              rw [hB] at w2
              have hw1 : p.2.2 = (p.1.assoc : Int) := by have h := (J3.out p (List.mem_of_getElem? hp)).1; have h2 := HAS.out p.1 (List.mem_of_getElem? hx); rw [h] at h2 ⊢; exact encA_of h2
              have hw2 : p'.2.2 = (p'.1.assoc : Int) := by have h := (N3.out p' (List.mem_of_getElem? hp')).1; have h2 := HAS2.out p'.1 (List.mem_of_getElem? hx'); rw [h] at h2 ⊢; exact encA_of h2
              have y0 : wr.cell? ⟨b1, o1 + k * 2, none⟩ = some (.int .i64 p.2.2) := f1 _ _ (hv 0 _ (by omega) rfl)
              have y1 : wr.cell? ⟨b1, o1 + k * 2 + 1, none⟩ = some p.2.1 := by rw [Nat.add_assoc]; exact f1 _ _ (hv 1 _ (by omega) rfl)
              have z0 : wr.cell? ⟨b2, o2 + k * 2, none⟩ = some (.int .i64 p'.2.2) := f2 _ _ (hv' 0 _ (by omega) rfl)
              have z1 : wr.cell? ⟨b2, o2 + k * 2 + 1, none⟩ = some p'.2.1 := by rw [Nat.add_assoc]; exact f2 _ _ (hv' 1 _ (by omega) rfl)
              rw [hw1] at y0
              rw [hw2] at z0
              rw [hv1] at y1
              rw [hv2] at z1
              have hi : p.1.assoc = p'.1.assoc → p.1.names = p'.1.names → G.levels.take (k + 1) = F.levels.take (k + 1) := fun q0 q1 => by
                have e : p.1 = p'.1 := lev_eq q0 q1
                rw [List.take_add_one, List.take_add_one, hx, hx', HTK.out, e]
              have HI := Lib.hid hi
              have HL1 := Lib.hid (hl1.below (HBE.out.mono hBW))
              have HL2 := Lib.hid (hl2.below (HBE.out.mono hBW))
              clear hi hw1 hw2 hx hp hp' hx' hv1 hl1 hv2 hl2 hv hv' f1 f2 hA hB
              generalize p.1.assoc = X0 at y0 HI
              generalize p'.1.assoc = Y0 at z0 HI
              generalize p.1.names = XN at y1 HL1 hm1 HI
              generalize p'.1.names = YN at z1 HL2 hm2 HI
              have hki : (k : Int) < (c : Int) := by omega
              have hk0 : (0 : Int) ≤ (k : Int) := by omega
              by_cases q0 : X0 = Y0
              rotate_left
              · have t1 : ((X0 : Int) == (Y0 : Int)) = false := by rw [beq_eq_false_iff_ne]; omega
                have t2 : ((X0 : Int) != (Y0 : Int)) = true := by rw [bne_iff_ne]; omega
                have t3 : ¬ (X0 : Int) = (Y0 : Int) := by omega
                go_wp2_with fail
                go_quiet (fail)
                go_wp2_with fail
                go_ret
                exact ⟨rfl, HBW.out.trans ((below_drewN HBE.out _).mono HBW.out.size)⟩
              subst q0
              have u4 : ((X0 : Int) != (X0 : Int)) = false := by simp
              by_cases q1 : XN = YN
              rotate_left
              · have HQ := Lib.hid q1
                clear q1
                go_wp2_with fail
                go_quiet (first | (go_at_call 16; refine quiet_texts (textsC_diff _ _ _ _ XN YN B _ (HL1.out.drewN _) (HL2.out.drewN _) hm1 hm2 HQ.out)))
                go_wp2_with fail
                go_ret
                exact ⟨rfl, HBW.out.trans ((below_drewN HBE.out _).mono HBW.out.size)⟩
              subst q1
              have HE := Lib.hid (HI.out rfl rfl)
              clear HI
              go_wp2_with fail
              go_quiet (first | (go_at_call 16; refine quiet_texts (textsC_same _ _ _ _ XN B _ (HL1.out.drewN _) (HL2.out.drewN _) hm1)))
              go_wp2_with fail
              go_roundw
              case rel => exact ⟨k + 1, by omega, by go_num, below_drewN HBE.out _, HE⟩
              case measure => simp [intOf]; omega
            · obtain rfl : c = k := by omega
              have HE_c := Lib.hid (show G.levels = F.levels by have h := HTK.out; rwa [List.take_of_length_le (by rw [HC.out]; exact Nat.le_refl _), List.take_of_length_le (by rw [HC'.out]; exact Nat.le_refl _)] at h)
              go_wp2_with fail
              clear x0 x1 x2 x4 w0 w1 w2 w4 hs9 hl8 hl9
              go_loopw [8] (fun i wr' => ∃ k : Nat, k ≤ d ∧ i = .int .i64 (k : Int) ∧ Below W.heap.size W wr' ∧ Hid (G.rules.take k = F.rules.take k)) (fun i _ => d - (intOf i).toNat)
              case atStart => exact ⟨0, by omega, rfl, HBE.out, Lib.hid rfl⟩
              case round =>
                clear HBE
                rename_i wr2
                obtain ⟨k, hk, rfl, hbe, HTK⟩ := hrel
                have HBE := Lib.hid hbe
                clear hbe
                have hs9 := HBE.out.size
                have hl9 : g1 < wr.heap.size := by omega
                have hl8 : g2 < wr.heap.size := by omega
                have a1' := HG1.out.below HBE.out hgl1
                have a2' := HG2.out.below HBE.out hgl2
                have x0 := a1'.cell 0
                have x1 := a1'.cell 1
                have x2 := a1'.cell 2
                have x4 := a1'.cell 4
                have w0 := a2'.cell 0
                have w1 := a2'.cell 1
                have w2 := a2'.cell 2
                have w4 := a2'.cell 4
                simp only [List.getElem?_toArray, List.getElem?_cons_zero, List.getElem?_cons_succ] at x0 x1 x2 x4 w0 w1 w2 w4
                clear a1' a2'
                by_cases hlt : k < d
                · obtain ⟨p, hp⟩ := some_get (l := ql) (i := k) (by rw [← List.length_map (f := (·.1)), Q4.out, HD.out]; exact hlt)
                  obtain ⟨p', hp'⟩ := some_get (l := ql') (i := k) (by rw [← List.length_map (f := (·.1)), R4.out, HD'.out]; exact hlt)
                  have hx : G.rules[k]? = some p.1 := by rw [← Q4.out, List.getElem?_map, hp]; rfl
                  have hx' : F.rules[k]? = some p'.1 := by rw [← R4.out, List.getElem?_map, hp']; rfl
                  obtain ⟨E1, d1, hv1, hl1⟩ := J4'.out p (List.mem_of_getElem? hp)
                  obtain ⟨E2, d2, hv2, hl2⟩ := N4'.out p' (List.mem_of_getElem? hp')
                  have hm1 := HN2.out p.1 (List.mem_of_getElem? hx)
                  have hm2 := HN4.out p'.1 (List.mem_of_getElem? hx')
                  have hv := fun j u (hj : j < 4) (hu : (ruleCells p)[j]? = some u) => flat_get ruleCells 4 (fun _ => rfl) ql k j p u hp hj hu
                  have hv' := fun j u (hj : j < 4) (hu : (ruleCells p')[j]? = some u) => flat_get ruleCells 4 (fun _ => rfl) ql' k j p' u hp' hj hu
                  obtain ⟨b1, o1, hA, hb1, f1⟩ := (L4.out.below (HBE.out.mono hBW)).ex (fun e => by have h := hv 0 _ (by omega) rfl; rw [show ql.flatMap ruleCells = rulesV ql from rfl, e] at h; simp at h)
                  obtain ⟨b2, o2, hB, hb2, f2⟩ := (P4.out.below (HBE.out.mono hBW)).ex (fun e => by have h := hv' 0 _ (by omega) rfl; rw [show ql'.flatMap ruleCells = rulesV ql' from rfl, e] at h; simp at h)
                  have hb1 : b1 < wr.heap.size := by omega
                  have hb2 : b2 < wr.heap.size := by omega
                  rw [hA] at x4
                  rw [hB] at w4
                  have y0 : wr.cell? ⟨b1, o1 + k * 4, none⟩ = some (.string (str p.1.left)) := f1 _ _ (hv 0 _ (by omega) rfl)
                  have y1 : wr.cell? ⟨b1, o1 + k * 4 + 1, none⟩ = some p.2 := by rw [Nat.add_assoc]; exact f1 _ _ (hv 1 _ (by omega) rfl)
                  have y2 : wr.cell? ⟨b1, o1 + k * 4 + 2, none⟩ = some (.string (str p.1.prec)) := by rw [Nat.add_assoc]; exact f1 _ _ (hv 2 _ (by omega) rfl)
                  have y3 : wr.cell? ⟨b1, o1 + k * 4 + 3, none⟩ = some (.string (str p.1.action)) := by rw [Nat.add_assoc]; exact f1 _ _ (hv 3 _ (by omega) rfl)
                  have z0 : wr.cell? ⟨b2, o2 + k * 4, none⟩ = some (.string (str p'.1.left)) := f2 _ _ (hv' 0 _ (by omega) rfl)
                  have z1 : wr.cell? ⟨b2, o2 + k * 4 + 1, none⟩ = some p'.2 := by rw [Nat.add_assoc]; exact f2 _ _ (hv' 1 _ (by omega) rfl)
                  have z2 : wr.cell? ⟨b2, o2 + k * 4 + 2, none⟩ = some (.string (str p'.1.prec)) := by rw [Nat.add_assoc]; exact f2 _ _ (hv' 2 _ (by omega) rfl)
                  have z3 : wr.cell? ⟨b2, o2 + k * 4 + 3, none⟩ = some (.string (str p'.1.action)) := by rw [Nat.add_assoc]; exact f2 _ _ (hv' 3 _ (by omega) rfl)
                  rw [hv1] at y1
                  rw [hv2] at z1
                  have hi : str p.1.left = str p'.1.left → str p.1.prec = str p'.1.prec → str p.1.action = str p'.1.action → p.1.right = p'.1.right → G.rules.take (k + 1) = F.rules.take (k + 1) := fun q0 q2 q3 q1 => by
                    have e : p.1 = p'.1 := rule_eq (str_inj q0) q1 (str_inj q2) (str_inj q3)
                    rw [List.take_add_one, List.take_add_one, hx, hx', HTK.out, e]
                  have HI := Lib.hid hi
                  have HL1 := Lib.hid (hl1.below (HBE.out.mono hBW))
                  have HL2 := Lib.hid (hl2.below (HBE.out.mono hBW))
                  clear hi hx hp hp' hx' hv1 hl1 hv2 hl2 hv hv' f1 f2 hA hB
                  generalize str p.1.left = X0 at y0 HI
                  generalize str p'.1.left = Y0 at z0 HI
                  generalize str p.1.prec = X2 at y2 HI
                  generalize str p'.1.prec = Y2 at z2 HI
                  generalize str p.1.action = X3 at y3 HI
                  generalize str p'.1.action = Y3 at z3 HI
                  generalize p.1.right = XN at y1 HL1 hm1 HI
                  generalize p'.1.right = YN at z1 HL2 hm2 HI
                  have hki : (k : Int) < (d : Int) := by omega
                  have hk0 : (0 : Int) ≤ (k : Int) := by omega
                  have HBN0 := Lib.hid (show Below wr.heap.size wr ((wr.alloc (.cells #[.string X0, .slice E1 XN.length d1, .string X2, .string X3] 30)).alloc (.cells #[.string Y0, .slice E2 YN.length d2, .string Y2, .string Y3] 30)) from ((Below.refl _ _).alloc (Nat.le_refl _) _).alloc (by simp) _)
                  by_cases q0 : X0 = Y0
                  rotate_left
                  · have t1 := ba_ne q0
                    have t2 := ba_ne2 q0
                    clear q0
                    go_wp2_with fail
                    go_ret
                    exact ⟨rfl, HBW.out.trans ((HBE.out.trans (HBN0.out.mono HBE.out.size)).mono HBW.out.size)⟩
                  subst q0
                  by_cases q2 : X2 = Y2
                  rotate_left
                  · have t1 := ba_ne q2
                    have t2 := ba_ne2 q2
                    clear q2
                    go_wp2_with fail
                    go_ret
                    exact ⟨rfl, HBW.out.trans ((HBE.out.trans (HBN0.out.mono HBE.out.size)).mono HBW.out.size)⟩
                  subst q2
                  by_cases q3 : X3 = Y3
                  rotate_left
                  · have t1 := ba_ne q3
                    have t2 := ba_ne2 q3
                    clear q3
                    go_wp2_with fail
                    go_ret
                    exact ⟨rfl, HBW.out.trans ((HBE.out.trans (HBN0.out.mono HBE.out.size)).mono HBW.out.size)⟩
                  subst q3
                  by_cases q1 : XN = YN
                  rotate_left
                  · have HQ := Lib.hid q1
                    clear q1
                    go_wp2_with fail
                    refine (textsC_diff _ _ _ _ XN YN B _ (HL1.out.below (HBN0.out.mono (by omega))) (HL2.out.below (HBN0.out.mono (by omega))) hm1 hm2 HQ.out).mono ?_
                    rintro e w9 ⟨rfl, nn, rfl⟩
                    go_wp2_with fail
                    go_ret
                    exact ⟨rfl, HBW.out.trans ((below_drewN (HBE.out.trans (HBN0.out.mono HBE.out.size)) _).mono HBW.out.size)⟩
                  subst q1
                  have HE := Lib.hid (HI.out rfl rfl rfl rfl)
                  clear HI
                  go_wp2_with fail
                  refine (textsC_same _ _ _ _ XN B _ (HL1.out.below (HBN0.out.mono (by omega))) (HL2.out.below (HBN0.out.mono (by omega))) hm1).mono ?_
                  rintro e w9 ⟨rfl, nn, rfl⟩
                  have HBN := Lib.hid (HBE.out.trans (HBN0.out.mono HBE.out.size))
                  go_wp2_with fail
                  go_roundw
                  case rel => exact ⟨k + 1, by omega, by go_num, below_drewN HBN.out _, HE⟩
                  case measure => simp [intOf]; omega
                · obtain rfl : d = k := by omega
                  have HE_d := Lib.hid (show G.rules = F.rules by have h := HTK.out; rwa [List.take_of_length_le (by rw [HD.out]; exact Nat.le_refl _), List.take_of_length_le (by rw [HD'.out]; exact Nat.le_refl _)] at h)
                  exact (HEQ.out HE_a.out HE_b.out HE_c.out HE_d.out).elim

end Go.Proofs.YtgmihbfikggkjaaDoor

namespace Go.Proofs.YtgmihbfikggkjaaDoor
open Go.RowKit
open Lx
set_option linter.unusedVariables false
set_option linter.unusedSimpArgs false
set_option maxRecDepth 100000

/-- What Print answers, in two kinds. -/
theorem printV_kind (G : Rd.G) : ∃ a e, printV G = .tuple #[.string a, .int .i64 e] ∧ ((e = 0 ∧ Pr.Right G ∧ (Pr.text G).length ≤ 4000 ∧ a = str (Pr.text G)) ∨ e = 1 ∨ e = 12) := by
  by_cases hr : Pr.rightB G = true
  · have hright := (Pr.rightB_iff G).1 hr
    by_cases hl : 4000 < (Pr.text G).length
    · exact ⟨_, 12, by rw [printV_right hright, if_pos hl], .inr (.inr rfl)⟩
    · exact ⟨_, 0, by rw [printV_right hright, if_neg hl], .inl ⟨rfl, hright, by omega, rfl⟩⟩
  · exact ⟨_, 1, by unfold printV; rw [if_neg hr], .inr (.inl rfl)⟩

set_option maxHeartbeats 4000000 in
theorem unlike_law (v1 : Value) (G : Rd.G) (v2 : Value) (F : Rd.G) (W : World) (hgs : GramC W W.heap.size v1 G ∧ Sz G) (hfs : GramC W W.heap.size v2 F ∧ Sz F) (hT : Tab W) (h0 : 0 < W.heap.size) :
    Calls Tryd.prog 4 #[v1, v2] W fun e w' => e = .returned (.bool true) ∧ Below W.heap.size W w' := by
  obtain ⟨hg, hs⟩ := hgs
  obtain ⟨hh, hs2⟩ := hfs
  have HGC := Lib.hid hg
  have HHC := Lib.hid hh
  have HSZ1 := Lib.hid (show ∀ v ∈ G.levels, v.names.length ≤ 140737488355328 from fun v hv => (hs.lev v hv).1)
  have HSZ2 := Lib.hid (show ∀ v ∈ F.levels, v.names.length ≤ 140737488355328 from fun v hv => (hs2.lev v hv).1)
  have HF1 := Lib.hid (show ∀ w', Below W.heap.size W w' → Calls Tryd.prog 11 #[v1] w' fun e w'' => FewIs e (Pr.total G < 4611686018427387904) (Pr.fewB G) ∧ Below w'.heap.size w' w'' from fun w' hw' => few_any v1 G W.heap.size w' (hg.below hw') hw'.size hs)
  have HF2 := Lib.hid (show ∀ w', Below W.heap.size W w' → Calls Tryd.prog 11 #[v2] w' fun e w'' => FewIs e (Pr.total F < 4611686018427387904) (Pr.fewB F) ∧ Below w'.heap.size w' w'' from fun w' hw' => few_any v2 F W.heap.size w' (hh.below hw') hw'.size hs2)
  have HP1 := Lib.hid (show (Pr.rightC G = true → (Pr.lvl G).length ≤ 10000) → ∀ w', Below W.heap.size W w' → Calls Tryd.prog 12 #[v1] w' fun e w'' => e = .returned (printV G) ∧ Below w'.heap.size w' w'' from fun hN w' hw' => print_any v1 G W.heap.size w' (hg.below hw') hw'.size hs (hT.below hw' h0) h0 hN)
  have HP2 := Lib.hid (show (Pr.rightC F = true → (Pr.lvl F).length ≤ 10000) → ∀ w', Below W.heap.size W w' → Calls Tryd.prog 12 #[v2] w' fun e w'' => e = .returned (printV F) ∧ Below w'.heap.size w' w'' from fun hN w' hw' => print_any v2 F W.heap.size w' (hh.below hw') hw'.size hs2 (hT.below hw' h0) h0 hN)
  have HT := Lib.hid hT
  obtain ⟨E1, m1, f1, E2, m2, f2, E3, m3, f3, st, E4, m4, f4, rfl⟩ := gramC_form hg
  obtain ⟨E5, m5, f5, E6, m6, f6, E7, m7, f7, st2, E8, m8, f8, rfl⟩ := gramC_form hh
  have HG0 := Lib.hid ((At.new W 35 #[.slice E1 m1 f1, .slice E2 m2 f2, .slice E3 m3 f3, .string st, .slice E4 m4 f4]).alloc (.cells #[.slice E5 m5 f5, .slice E6 m6 f6, .slice E7 m7 f7, .string st2, .slice E8 m8 f8] 35))
  have HH0 : Hid (At ((W.alloc (.cells #[.slice E1 m1 f1, .slice E2 m2 f2, .slice E3 m3 f3, .string st, .slice E4 m4 f4] 35)).alloc (.cells #[.slice E5 m5 f5, .slice E6 m6 f6, .slice E7 m7 f7, .string st2, .slice E8 m8 f8] 35)) (W.heap.size + 1) 35 #[.slice E5 m5 f5, .slice E6 m6 f6, .slice E7 m7 f7, .string st2, .slice E8 m8 f8]) := Lib.hid (by
    have h := At.new (W.alloc (.cells #[.slice E1 m1 f1, .slice E2 m2 f2, .slice E3 m3 f3, .string st, .slice E4 m4 f4] 35)) 35 #[.slice E5 m5 f5, .slice E6 m6 f6, .slice E7 m7 f7, .string st2, .slice E8 m8 f8]
    simpa using h)
  have HB0 : Hid (Below W.heap.size W ((W.alloc (.cells #[.slice E1 m1 f1, .slice E2 m2 f2, .slice E3 m3 f3, .string st, .slice E4 m4 f4] 35)).alloc (.cells #[.slice E5 m5 f5, .slice E6 m6 f6, .slice E7 m7 f7, .string st2, .slice E8 m8 f8] 35))) := Lib.hid (((Below.refl _ _).alloc (Nat.le_refl _) _).alloc (by simp) _)
  have HT0 := Lib.hid (HT.out.below HB0.out h0)
  have hl0 := Nat.lt_of_lt_of_le h0 HB0.out.size
  clear hg hs hh hs2 hT
  obtain ⟨a1, e1, hv1, hk1⟩ := printV_kind G
  obtain ⟨a2, e2, hv2, hk2⟩ := printV_kind F
  have HV1 := Lib.hid hv1
  have HV2 := Lib.hid hv2
  clear hv1 hv2
  by_cases z1 : e1 = 0
  rotate_left
  · have t1 : (e1 == 0) = false := by simpa using z1
    have t2 : (e1 != 0) = true := by simpa using z1
    clear hk1 hk2
    go_enter Tryd.func4, Tryd.ntmps4
    go_wp2_with fail
    refine (awake7_any _ HT0.out hl0).mono ?_
    rintro e w1 ⟨rfl, hb⟩
    -- 0: number before, 1: number behind
    have HG1 := Lib.hid (HG0.out.below hb HG0.out.lt)
    have HH1 := Lib.hid (HH0.out.below hb HH0.out.lt)
    have HB1 := Lib.hid (HB0.out.trans (hb.mono HB0.out.size))
    have lg1 := HG1.out.lt
    have lh1 := HH1.out.lt
    clear hb
    have x1a := HG1.out
    have x10 := x1a.cell 0
    have x11 := x1a.cell 1
    have x12 := x1a.cell 2
    have x13 := x1a.cell 3
    have x14 := x1a.cell 4
    simp only [List.getElem?_toArray, List.getElem?_cons_zero, List.getElem?_cons_succ] at x10 x11 x12 x13 x14
    clear x1a
    have y1a := HH1.out
    have y10 := y1a.cell 0
    have y11 := y1a.cell 1
    have y12 := y1a.cell 2
    have y13 := y1a.cell 3
    have y14 := y1a.cell 4
    simp only [List.getElem?_toArray, List.getElem?_cons_zero, List.getElem?_cons_succ] at y10 y11 y12 y13 y14
    clear y1a
    go_wp2_with fail
    refine (HF1.out _ HB1.out).mono ?_
    rintro e w2 ⟨⟨⟨b1, rfl, hf1⟩⟩, hb⟩
    clear x10 x11 x12 x13 x14 y10 y11 y12 y13 y14
    -- 1: number before, 2: number behind
    have HG2 := Lib.hid (HG1.out.below hb HG1.out.lt)
    have HH2 := Lib.hid (HH1.out.below hb HH1.out.lt)
    have HB2 := Lib.hid (HB1.out.trans (hb.mono HB1.out.size))
    have lg2 := HG2.out.lt
    have lh2 := HH2.out.lt
    clear hb
    have x2a := HG2.out
    have x20 := x2a.cell 0
    have x21 := x2a.cell 1
    have x22 := x2a.cell 2
    have x23 := x2a.cell 3
    have x24 := x2a.cell 4
    simp only [List.getElem?_toArray, List.getElem?_cons_zero, List.getElem?_cons_succ] at x20 x21 x22 x23 x24
    clear x2a
    have y2a := HH2.out
    have y20 := y2a.cell 0
    have y21 := y2a.cell 1
    have y22 := y2a.cell 2
    have y23 := y2a.cell 3
    have y24 := y2a.cell 4
    simp only [List.getElem?_toArray, List.getElem?_cons_zero, List.getElem?_cons_succ] at y20 y21 y22 y23 y24
    clear y2a
    go_wp2_with fail
    refine (HF2.out _ HB2.out).mono ?_
    rintro e w3 ⟨⟨⟨b2, rfl, hf2⟩⟩, hb⟩
    clear x20 x21 x22 x23 x24 y20 y21 y22 y23 y24
    -- 2: number before, 3: number behind
    have HG3 := Lib.hid (HG2.out.below hb HG2.out.lt)
    have HH3 := Lib.hid (HH2.out.below hb HH2.out.lt)
    have HB3 := Lib.hid (HB2.out.trans (hb.mono HB2.out.size))
    have lg3 := HG3.out.lt
    have lh3 := HH3.out.lt
    clear hb
    have x3a := HG3.out
    have x30 := x3a.cell 0
    have x31 := x3a.cell 1
    have x32 := x3a.cell 2
    have x33 := x3a.cell 3
    have x34 := x3a.cell 4
    simp only [List.getElem?_toArray, List.getElem?_cons_zero, List.getElem?_cons_succ] at x30 x31 x32 x33 x34
    clear x3a
    have y3a := HH3.out
    have y30 := y3a.cell 0
    have y31 := y3a.cell 1
    have y32 := y3a.cell 2
    have y33 := y3a.cell 3
    have y34 := y3a.cell 4
    simp only [List.getElem?_toArray, List.getElem?_cons_zero, List.getElem?_cons_succ] at y30 y31 y32 y33 y34
    clear y3a
    have HFA := Lib.hid hf1
    have HFB := Lib.hid hf2
    clear hf1 hf2
    cases b1 with
    | false =>
      cases b2 with
      | false =>
        go_wp2_with fail
        go_ret
        exact ⟨rfl, HB3.out⟩
      | true =>
        go_wp2_with fail
        go_ret
        exact ⟨rfl, HB3.out⟩
    | true =>
      cases b2 with
      | false =>
        go_wp2_with fail
        go_ret
        exact ⟨rfl, HB3.out⟩
      | true =>
        have HN1 := Lib.hid (show Pr.rightC G = true → (Pr.lvl G).length ≤ 10000 from fun hc => by have h1 := Pr.small_right hc HSZ1.out; have h2 := Pr.few_lvl (HFA.out h1).symm; omega)
        have HN2 := Lib.hid (show Pr.rightC F = true → (Pr.lvl F).length ≤ 10000 from fun hc => by have h1 := Pr.small_right hc HSZ2.out; have h2 := Pr.few_lvl (HFB.out h1).symm; omega)
        go_wp2_with fail
        refine (HP1.out HN1.out _ HB3.out).mono ?_
        rw [HV1.out]
        rintro e w4 ⟨rfl, hb⟩
        clear x30 x31 x32 x33 x34 y30 y31 y32 y33 y34
        -- 3: number before, 4: number behind
        have HG4 := Lib.hid (HG3.out.below hb HG3.out.lt)
        have HH4 := Lib.hid (HH3.out.below hb HH3.out.lt)
        have HB4 := Lib.hid (HB3.out.trans (hb.mono HB3.out.size))
        have lg4 := HG4.out.lt
        have lh4 := HH4.out.lt
        clear hb
        have x4a := HG4.out
        have x40 := x4a.cell 0
        have x41 := x4a.cell 1
        have x42 := x4a.cell 2
        have x43 := x4a.cell 3
        have x44 := x4a.cell 4
        simp only [List.getElem?_toArray, List.getElem?_cons_zero, List.getElem?_cons_succ] at x40 x41 x42 x43 x44
        clear x4a
        have y4a := HH4.out
        have y40 := y4a.cell 0
        have y41 := y4a.cell 1
        have y42 := y4a.cell 2
        have y43 := y4a.cell 3
        have y44 := y4a.cell 4
        simp only [List.getElem?_toArray, List.getElem?_cons_zero, List.getElem?_cons_succ] at y40 y41 y42 y43 y44
        clear y4a
        go_wp2_with fail
        refine (HP2.out HN2.out _ HB4.out).mono ?_
        rw [HV2.out]
        rintro e w5 ⟨rfl, hb⟩
        clear x40 x41 x42 x43 x44 y40 y41 y42 y43 y44
        -- 4: number before, 5: number behind
        have HG5 := Lib.hid (HG4.out.below hb HG4.out.lt)
        have HH5 := Lib.hid (HH4.out.below hb HH4.out.lt)
        have HB5 := Lib.hid (HB4.out.trans (hb.mono HB4.out.size))
        have lg5 := HG5.out.lt
        have lh5 := HH5.out.lt
        clear hb
        have x5a := HG5.out
        have x50 := x5a.cell 0
        have x51 := x5a.cell 1
        have x52 := x5a.cell 2
        have x53 := x5a.cell 3
        have x54 := x5a.cell 4
        simp only [List.getElem?_toArray, List.getElem?_cons_zero, List.getElem?_cons_succ] at x50 x51 x52 x53 x54
        clear x5a
        have y5a := HH5.out
        have y50 := y5a.cell 0
        have y51 := y5a.cell 1
        have y52 := y5a.cell 2
        have y53 := y5a.cell 3
        have y54 := y5a.cell 4
        simp only [List.getElem?_toArray, List.getElem?_cons_zero, List.getElem?_cons_succ] at y50 y51 y52 y53 y54
        clear y5a
        go_wp2_with fail
        go_ret
        exact ⟨rfl, HB5.out⟩
  by_cases z2 : e2 = 0
  rotate_left
  · have t1 : (e2 == 0) = false := by simpa using z2
    have t2 : (e2 != 0) = true := by simpa using z2
    subst z1
    clear hk1 hk2
    go_enter Tryd.func4, Tryd.ntmps4
    go_wp2_with fail
    refine (awake7_any _ HT0.out hl0).mono ?_
    rintro e w1 ⟨rfl, hb⟩
    -- 0: number before, 1: number behind
    have HG1 := Lib.hid (HG0.out.below hb HG0.out.lt)
    have HH1 := Lib.hid (HH0.out.below hb HH0.out.lt)
    have HB1 := Lib.hid (HB0.out.trans (hb.mono HB0.out.size))
    have lg1 := HG1.out.lt
    have lh1 := HH1.out.lt
    clear hb
    have x1a := HG1.out
    have x10 := x1a.cell 0
    have x11 := x1a.cell 1
    have x12 := x1a.cell 2
    have x13 := x1a.cell 3
    have x14 := x1a.cell 4
    simp only [List.getElem?_toArray, List.getElem?_cons_zero, List.getElem?_cons_succ] at x10 x11 x12 x13 x14
    clear x1a
    have y1a := HH1.out
    have y10 := y1a.cell 0
    have y11 := y1a.cell 1
    have y12 := y1a.cell 2
    have y13 := y1a.cell 3
    have y14 := y1a.cell 4
    simp only [List.getElem?_toArray, List.getElem?_cons_zero, List.getElem?_cons_succ] at y10 y11 y12 y13 y14
    clear y1a
    go_wp2_with fail
    refine (HF1.out _ HB1.out).mono ?_
    rintro e w2 ⟨⟨⟨b1, rfl, hf1⟩⟩, hb⟩
    clear x10 x11 x12 x13 x14 y10 y11 y12 y13 y14
    -- 1: number before, 2: number behind
    have HG2 := Lib.hid (HG1.out.below hb HG1.out.lt)
    have HH2 := Lib.hid (HH1.out.below hb HH1.out.lt)
    have HB2 := Lib.hid (HB1.out.trans (hb.mono HB1.out.size))
    have lg2 := HG2.out.lt
    have lh2 := HH2.out.lt
    clear hb
    have x2a := HG2.out
    have x20 := x2a.cell 0
    have x21 := x2a.cell 1
    have x22 := x2a.cell 2
    have x23 := x2a.cell 3
    have x24 := x2a.cell 4
    simp only [List.getElem?_toArray, List.getElem?_cons_zero, List.getElem?_cons_succ] at x20 x21 x22 x23 x24
    clear x2a
    have y2a := HH2.out
    have y20 := y2a.cell 0
    have y21 := y2a.cell 1
    have y22 := y2a.cell 2
    have y23 := y2a.cell 3
    have y24 := y2a.cell 4
    simp only [List.getElem?_toArray, List.getElem?_cons_zero, List.getElem?_cons_succ] at y20 y21 y22 y23 y24
    clear y2a
    go_wp2_with fail
    refine (HF2.out _ HB2.out).mono ?_
    rintro e w3 ⟨⟨⟨b2, rfl, hf2⟩⟩, hb⟩
    clear x20 x21 x22 x23 x24 y20 y21 y22 y23 y24
    -- 2: number before, 3: number behind
    have HG3 := Lib.hid (HG2.out.below hb HG2.out.lt)
    have HH3 := Lib.hid (HH2.out.below hb HH2.out.lt)
    have HB3 := Lib.hid (HB2.out.trans (hb.mono HB2.out.size))
    have lg3 := HG3.out.lt
    have lh3 := HH3.out.lt
    clear hb
    have x3a := HG3.out
    have x30 := x3a.cell 0
    have x31 := x3a.cell 1
    have x32 := x3a.cell 2
    have x33 := x3a.cell 3
    have x34 := x3a.cell 4
    simp only [List.getElem?_toArray, List.getElem?_cons_zero, List.getElem?_cons_succ] at x30 x31 x32 x33 x34
    clear x3a
    have y3a := HH3.out
    have y30 := y3a.cell 0
    have y31 := y3a.cell 1
    have y32 := y3a.cell 2
    have y33 := y3a.cell 3
    have y34 := y3a.cell 4
    simp only [List.getElem?_toArray, List.getElem?_cons_zero, List.getElem?_cons_succ] at y30 y31 y32 y33 y34
    clear y3a
    have HFA := Lib.hid hf1
    have HFB := Lib.hid hf2
    clear hf1 hf2
    cases b1 with
    | false =>
      cases b2 with
      | false =>
        go_wp2_with fail
        go_ret
        exact ⟨rfl, HB3.out⟩
      | true =>
        go_wp2_with fail
        go_ret
        exact ⟨rfl, HB3.out⟩
    | true =>
      cases b2 with
      | false =>
        go_wp2_with fail
        go_ret
        exact ⟨rfl, HB3.out⟩
      | true =>
        have HN1 := Lib.hid (show Pr.rightC G = true → (Pr.lvl G).length ≤ 10000 from fun hc => by have h1 := Pr.small_right hc HSZ1.out; have h2 := Pr.few_lvl (HFA.out h1).symm; omega)
        have HN2 := Lib.hid (show Pr.rightC F = true → (Pr.lvl F).length ≤ 10000 from fun hc => by have h1 := Pr.small_right hc HSZ2.out; have h2 := Pr.few_lvl (HFB.out h1).symm; omega)
        go_wp2_with fail
        refine (HP1.out HN1.out _ HB3.out).mono ?_
        rw [HV1.out]
        rintro e w4 ⟨rfl, hb⟩
        clear x30 x31 x32 x33 x34 y30 y31 y32 y33 y34
        -- 3: number before, 4: number behind
        have HG4 := Lib.hid (HG3.out.below hb HG3.out.lt)
        have HH4 := Lib.hid (HH3.out.below hb HH3.out.lt)
        have HB4 := Lib.hid (HB3.out.trans (hb.mono HB3.out.size))
        have lg4 := HG4.out.lt
        have lh4 := HH4.out.lt
        clear hb
        have x4a := HG4.out
        have x40 := x4a.cell 0
        have x41 := x4a.cell 1
        have x42 := x4a.cell 2
        have x43 := x4a.cell 3
        have x44 := x4a.cell 4
        simp only [List.getElem?_toArray, List.getElem?_cons_zero, List.getElem?_cons_succ] at x40 x41 x42 x43 x44
        clear x4a
        have y4a := HH4.out
        have y40 := y4a.cell 0
        have y41 := y4a.cell 1
        have y42 := y4a.cell 2
        have y43 := y4a.cell 3
        have y44 := y4a.cell 4
        simp only [List.getElem?_toArray, List.getElem?_cons_zero, List.getElem?_cons_succ] at y40 y41 y42 y43 y44
        clear y4a
        go_wp2_with fail
        refine (HP2.out HN2.out _ HB4.out).mono ?_
        rw [HV2.out]
        rintro e w5 ⟨rfl, hb⟩
        clear x40 x41 x42 x43 x44 y40 y41 y42 y43 y44
        -- 4: number before, 5: number behind
        have HG5 := Lib.hid (HG4.out.below hb HG4.out.lt)
        have HH5 := Lib.hid (HH4.out.below hb HH4.out.lt)
        have HB5 := Lib.hid (HB4.out.trans (hb.mono HB4.out.size))
        have lg5 := HG5.out.lt
        have lh5 := HH5.out.lt
        clear hb
        have x5a := HG5.out
        have x50 := x5a.cell 0
        have x51 := x5a.cell 1
        have x52 := x5a.cell 2
        have x53 := x5a.cell 3
        have x54 := x5a.cell 4
        simp only [List.getElem?_toArray, List.getElem?_cons_zero, List.getElem?_cons_succ] at x50 x51 x52 x53 x54
        clear x5a
        have y5a := HH5.out
        have y50 := y5a.cell 0
        have y51 := y5a.cell 1
        have y52 := y5a.cell 2
        have y53 := y5a.cell 3
        have y54 := y5a.cell 4
        simp only [List.getElem?_toArray, List.getElem?_cons_zero, List.getElem?_cons_succ] at y50 y51 y52 y53 y54
        clear y5a
        go_wp2_with fail
        go_ret
        exact ⟨rfl, HB5.out⟩
  subst z1
  subst z2
  obtain ⟨_, hr1, hl1, rfl⟩ : (0 : Int) = 0 ∧ Pr.Right G ∧ (Pr.text G).length ≤ 4000 ∧ a1 = str (Pr.text G) := by rcases hk1 with h | h | h; exact h; exact absurd h (by decide); exact absurd h (by decide)
  obtain ⟨_, hr2, hl2, rfl⟩ : (0 : Int) = 0 ∧ Pr.Right F ∧ (Pr.text F).length ≤ 4000 ∧ a2 = str (Pr.text F) := by rcases hk2 with h | h | h; exact h; exact absurd h (by decide); exact absurd h (by decide)
  have HR1 := Lib.hid hr1
  have HR2 := Lib.hid hr2
  have HC1 := Lib.hid (show Pr.rightC G = true by have h := (Pr.rightB_iff G).2 hr1; unfold Pr.rightB at h; rw [Bool.and_eq_true] at h; exact h.1)
  have HC2 := Lib.hid (show Pr.rightC F = true by have h := (Pr.rightB_iff F).2 hr2; unfold Pr.rightB at h; rw [Bool.and_eq_true] at h; exact h.1)
  by_cases hgf : G = F
  · have HQ := Lib.hid hgf
    have ht : str (Pr.text G) = str (Pr.text F) := by rw [hgf]
    rw [ht] at HV1
    generalize str (Pr.text F) = TT at HV1 HV2
    have t1 : (TT.toList == TT.toList) = true := by simp
    clear hk1 hk2 hr1 hr2 hl1 hl2 hgf ht
    go_enter Tryd.func4, Tryd.ntmps4
    go_wp2_with fail
    refine (awake7_any _ HT0.out hl0).mono ?_
    rintro e w1 ⟨rfl, hb⟩
    -- 0: number before, 1: number behind
    have HG1 := Lib.hid (HG0.out.below hb HG0.out.lt)
    have HH1 := Lib.hid (HH0.out.below hb HH0.out.lt)
    have HB1 := Lib.hid (HB0.out.trans (hb.mono HB0.out.size))
    have lg1 := HG1.out.lt
    have lh1 := HH1.out.lt
    clear hb
    have x1a := HG1.out
    have x10 := x1a.cell 0
    have x11 := x1a.cell 1
    have x12 := x1a.cell 2
    have x13 := x1a.cell 3
    have x14 := x1a.cell 4
    simp only [List.getElem?_toArray, List.getElem?_cons_zero, List.getElem?_cons_succ] at x10 x11 x12 x13 x14
    clear x1a
    have y1a := HH1.out
    have y10 := y1a.cell 0
    have y11 := y1a.cell 1
    have y12 := y1a.cell 2
    have y13 := y1a.cell 3
    have y14 := y1a.cell 4
    simp only [List.getElem?_toArray, List.getElem?_cons_zero, List.getElem?_cons_succ] at y10 y11 y12 y13 y14
    clear y1a
    go_wp2_with fail
    refine (HF1.out _ HB1.out).mono ?_
    rintro e w2 ⟨⟨⟨b1, rfl, hf1⟩⟩, hb⟩
    clear x10 x11 x12 x13 x14 y10 y11 y12 y13 y14
    -- 1: number before, 2: number behind
    have HG2 := Lib.hid (HG1.out.below hb HG1.out.lt)
    have HH2 := Lib.hid (HH1.out.below hb HH1.out.lt)
    have HB2 := Lib.hid (HB1.out.trans (hb.mono HB1.out.size))
    have lg2 := HG2.out.lt
    have lh2 := HH2.out.lt
    clear hb
    have x2a := HG2.out
    have x20 := x2a.cell 0
    have x21 := x2a.cell 1
    have x22 := x2a.cell 2
    have x23 := x2a.cell 3
    have x24 := x2a.cell 4
    simp only [List.getElem?_toArray, List.getElem?_cons_zero, List.getElem?_cons_succ] at x20 x21 x22 x23 x24
    clear x2a
    have y2a := HH2.out
    have y20 := y2a.cell 0
    have y21 := y2a.cell 1
    have y22 := y2a.cell 2
    have y23 := y2a.cell 3
    have y24 := y2a.cell 4
    simp only [List.getElem?_toArray, List.getElem?_cons_zero, List.getElem?_cons_succ] at y20 y21 y22 y23 y24
    clear y2a
    go_wp2_with fail
    refine (HF2.out _ HB2.out).mono ?_
    rintro e w3 ⟨⟨⟨b2, rfl, hf2⟩⟩, hb⟩
    clear x20 x21 x22 x23 x24 y20 y21 y22 y23 y24
    -- 2: number before, 3: number behind
    have HG3 := Lib.hid (HG2.out.below hb HG2.out.lt)
    have HH3 := Lib.hid (HH2.out.below hb HH2.out.lt)
    have HB3 := Lib.hid (HB2.out.trans (hb.mono HB2.out.size))
    have lg3 := HG3.out.lt
    have lh3 := HH3.out.lt
    clear hb
    have x3a := HG3.out
    have x30 := x3a.cell 0
    have x31 := x3a.cell 1
    have x32 := x3a.cell 2
    have x33 := x3a.cell 3
    have x34 := x3a.cell 4
    simp only [List.getElem?_toArray, List.getElem?_cons_zero, List.getElem?_cons_succ] at x30 x31 x32 x33 x34
    clear x3a
    have y3a := HH3.out
    have y30 := y3a.cell 0
    have y31 := y3a.cell 1
    have y32 := y3a.cell 2
    have y33 := y3a.cell 3
    have y34 := y3a.cell 4
    simp only [List.getElem?_toArray, List.getElem?_cons_zero, List.getElem?_cons_succ] at y30 y31 y32 y33 y34
    clear y3a
    have HFA := Lib.hid hf1
    have HFB := Lib.hid hf2
    clear hf1 hf2
    cases b1 with
    | false =>
      cases b2 with
      | false =>
        go_wp2_with fail
        go_ret
        exact ⟨rfl, HB3.out⟩
      | true =>
        go_wp2_with fail
        go_ret
        exact ⟨rfl, HB3.out⟩
    | true =>
      cases b2 with
      | false =>
        go_wp2_with fail
        go_ret
        exact ⟨rfl, HB3.out⟩
      | true =>
        have HN1 := Lib.hid (show Pr.rightC G = true → (Pr.lvl G).length ≤ 10000 from fun hc => by have h1 := Pr.small_right hc HSZ1.out; have h2 := Pr.few_lvl (HFA.out h1).symm; omega)
        have HN2 := Lib.hid (show Pr.rightC F = true → (Pr.lvl F).length ≤ 10000 from fun hc => by have h1 := Pr.small_right hc HSZ2.out; have h2 := Pr.few_lvl (HFB.out h1).symm; omega)
        go_wp2_with fail
        refine (HP1.out HN1.out _ HB3.out).mono ?_
        rw [HV1.out]
        rintro e w4 ⟨rfl, hb⟩
        clear x30 x31 x32 x33 x34 y30 y31 y32 y33 y34
        -- 3: number before, 4: number behind
        have HG4 := Lib.hid (HG3.out.below hb HG3.out.lt)
        have HH4 := Lib.hid (HH3.out.below hb HH3.out.lt)
        have HB4 := Lib.hid (HB3.out.trans (hb.mono HB3.out.size))
        have lg4 := HG4.out.lt
        have lh4 := HH4.out.lt
        clear hb
        have x4a := HG4.out
        have x40 := x4a.cell 0
        have x41 := x4a.cell 1
        have x42 := x4a.cell 2
        have x43 := x4a.cell 3
        have x44 := x4a.cell 4
        simp only [List.getElem?_toArray, List.getElem?_cons_zero, List.getElem?_cons_succ] at x40 x41 x42 x43 x44
        clear x4a
        have y4a := HH4.out
        have y40 := y4a.cell 0
        have y41 := y4a.cell 1
        have y42 := y4a.cell 2
        have y43 := y4a.cell 3
        have y44 := y4a.cell 4
        simp only [List.getElem?_toArray, List.getElem?_cons_zero, List.getElem?_cons_succ] at y40 y41 y42 y43 y44
        clear y4a
        go_wp2_with fail
        refine (HP2.out HN2.out _ HB4.out).mono ?_
        rw [HV2.out]
        rintro e w5 ⟨rfl, hb⟩
        clear x40 x41 x42 x43 x44 y40 y41 y42 y43 y44
        -- 4: number before, 5: number behind
        have HG5 := Lib.hid (HG4.out.below hb HG4.out.lt)
        have HH5 := Lib.hid (HH4.out.below hb HH4.out.lt)
        have HB5 := Lib.hid (HB4.out.trans (hb.mono HB4.out.size))
        have lg5 := HG5.out.lt
        have lh5 := HH5.out.lt
        clear hb
        have x5a := HG5.out
        have x50 := x5a.cell 0
        have x51 := x5a.cell 1
        have x52 := x5a.cell 2
        have x53 := x5a.cell 3
        have x54 := x5a.cell 4
        simp only [List.getElem?_toArray, List.getElem?_cons_zero, List.getElem?_cons_succ] at x50 x51 x52 x53 x54
        clear x5a
        have y5a := HH5.out
        have y50 := y5a.cell 0
        have y51 := y5a.cell 1
        have y52 := y5a.cell 2
        have y53 := y5a.cell 3
        have y54 := y5a.cell 4
        simp only [List.getElem?_toArray, List.getElem?_cons_zero, List.getElem?_cons_succ] at y50 y51 y52 y53 y54
        clear y5a
        go_wp2_with fail
        refine (sameC_any _ _ G W.heap.size _ (HGC.out.below HB5.out) (by rw [HQ.out]; exact HHC.out.below HB5.out) HB5.out.size (fun x hx => (Right.assoc HR1.out x hx).1) ⟨Nat.le_trans HR1.out.ntok (by decide), Nat.le_trans HR1.out.nskip (by decide), Nat.le_trans HR1.out.nlev (by decide), Nat.le_trans HR1.out.nrule (by decide)⟩ (Right.few HR1.out (HN1.out HC1.out)).1 (Right.few HR1.out (HN1.out HC1.out)).2).mono ?_
        rintro e w6 ⟨rfl, hb⟩
        go_wp2_with fail
        go_ret
        exact ⟨rfl, HB5.out.trans (hb.mono HB5.out.size)⟩
  · have HQ := Lib.hid hgf
    have hne : str (Pr.text G) ≠ str (Pr.text F) := fun h => hgf (Pr.text_inj hr1 hr2 hl1 (str_inj h))
    generalize str (Pr.text G) = T1 at HV1 hne
    generalize str (Pr.text F) = T2 at HV2 hne
    have t1 := ba_ne hne
    clear hk1 hk2 hr1 hr2 hl1 hl2 hgf hne
    go_enter Tryd.func4, Tryd.ntmps4
    go_wp2_with fail
    refine (awake7_any _ HT0.out hl0).mono ?_
    rintro e w1 ⟨rfl, hb⟩
    -- 0: number before, 1: number behind
    have HG1 := Lib.hid (HG0.out.below hb HG0.out.lt)
    have HH1 := Lib.hid (HH0.out.below hb HH0.out.lt)
    have HB1 := Lib.hid (HB0.out.trans (hb.mono HB0.out.size))
    have lg1 := HG1.out.lt
    have lh1 := HH1.out.lt
    clear hb
    have x1a := HG1.out
    have x10 := x1a.cell 0
    have x11 := x1a.cell 1
    have x12 := x1a.cell 2
    have x13 := x1a.cell 3
    have x14 := x1a.cell 4
    simp only [List.getElem?_toArray, List.getElem?_cons_zero, List.getElem?_cons_succ] at x10 x11 x12 x13 x14
    clear x1a
    have y1a := HH1.out
    have y10 := y1a.cell 0
    have y11 := y1a.cell 1
    have y12 := y1a.cell 2
    have y13 := y1a.cell 3
    have y14 := y1a.cell 4
    simp only [List.getElem?_toArray, List.getElem?_cons_zero, List.getElem?_cons_succ] at y10 y11 y12 y13 y14
    clear y1a
    go_wp2_with fail
    refine (HF1.out _ HB1.out).mono ?_
    rintro e w2 ⟨⟨⟨b1, rfl, hf1⟩⟩, hb⟩
    clear x10 x11 x12 x13 x14 y10 y11 y12 y13 y14
    -- 1: number before, 2: number behind
    have HG2 := Lib.hid (HG1.out.below hb HG1.out.lt)
    have HH2 := Lib.hid (HH1.out.below hb HH1.out.lt)
    have HB2 := Lib.hid (HB1.out.trans (hb.mono HB1.out.size))
    have lg2 := HG2.out.lt
    have lh2 := HH2.out.lt
    clear hb
    have x2a := HG2.out
    have x20 := x2a.cell 0
    have x21 := x2a.cell 1
    have x22 := x2a.cell 2
    have x23 := x2a.cell 3
    have x24 := x2a.cell 4
    simp only [List.getElem?_toArray, List.getElem?_cons_zero, List.getElem?_cons_succ] at x20 x21 x22 x23 x24
    clear x2a
    have y2a := HH2.out
    have y20 := y2a.cell 0
    have y21 := y2a.cell 1
    have y22 := y2a.cell 2
    have y23 := y2a.cell 3
    have y24 := y2a.cell 4
    simp only [List.getElem?_toArray, List.getElem?_cons_zero, List.getElem?_cons_succ] at y20 y21 y22 y23 y24
    clear y2a
    go_wp2_with fail
    refine (HF2.out _ HB2.out).mono ?_
    rintro e w3 ⟨⟨⟨b2, rfl, hf2⟩⟩, hb⟩
    clear x20 x21 x22 x23 x24 y20 y21 y22 y23 y24
    -- 2: number before, 3: number behind
    have HG3 := Lib.hid (HG2.out.below hb HG2.out.lt)
    have HH3 := Lib.hid (HH2.out.below hb HH2.out.lt)
    have HB3 := Lib.hid (HB2.out.trans (hb.mono HB2.out.size))
    have lg3 := HG3.out.lt
    have lh3 := HH3.out.lt
    clear hb
    have x3a := HG3.out
    have x30 := x3a.cell 0
    have x31 := x3a.cell 1
    have x32 := x3a.cell 2
    have x33 := x3a.cell 3
    have x34 := x3a.cell 4
    simp only [List.getElem?_toArray, List.getElem?_cons_zero, List.getElem?_cons_succ] at x30 x31 x32 x33 x34
    clear x3a
    have y3a := HH3.out
    have y30 := y3a.cell 0
    have y31 := y3a.cell 1
    have y32 := y3a.cell 2
    have y33 := y3a.cell 3
    have y34 := y3a.cell 4
    simp only [List.getElem?_toArray, List.getElem?_cons_zero, List.getElem?_cons_succ] at y30 y31 y32 y33 y34
    clear y3a
    have HFA := Lib.hid hf1
    have HFB := Lib.hid hf2
    clear hf1 hf2
    cases b1 with
    | false =>
      cases b2 with
      | false =>
        go_wp2_with fail
        go_ret
        exact ⟨rfl, HB3.out⟩
      | true =>
        go_wp2_with fail
        go_ret
        exact ⟨rfl, HB3.out⟩
    | true =>
      cases b2 with
      | false =>
        go_wp2_with fail
        go_ret
        exact ⟨rfl, HB3.out⟩
      | true =>
        have HN1 := Lib.hid (show Pr.rightC G = true → (Pr.lvl G).length ≤ 10000 from fun hc => by have h1 := Pr.small_right hc HSZ1.out; have h2 := Pr.few_lvl (HFA.out h1).symm; omega)
        have HN2 := Lib.hid (show Pr.rightC F = true → (Pr.lvl F).length ≤ 10000 from fun hc => by have h1 := Pr.small_right hc HSZ2.out; have h2 := Pr.few_lvl (HFB.out h1).symm; omega)
        go_wp2_with fail
        refine (HP1.out HN1.out _ HB3.out).mono ?_
        rw [HV1.out]
        rintro e w4 ⟨rfl, hb⟩
        clear x30 x31 x32 x33 x34 y30 y31 y32 y33 y34
        -- 3: number before, 4: number behind
        have HG4 := Lib.hid (HG3.out.below hb HG3.out.lt)
        have HH4 := Lib.hid (HH3.out.below hb HH3.out.lt)
        have HB4 := Lib.hid (HB3.out.trans (hb.mono HB3.out.size))
        have lg4 := HG4.out.lt
        have lh4 := HH4.out.lt
        clear hb
        have x4a := HG4.out
        have x40 := x4a.cell 0
        have x41 := x4a.cell 1
        have x42 := x4a.cell 2
        have x43 := x4a.cell 3
        have x44 := x4a.cell 4
        simp only [List.getElem?_toArray, List.getElem?_cons_zero, List.getElem?_cons_succ] at x40 x41 x42 x43 x44
        clear x4a
        have y4a := HH4.out
        have y40 := y4a.cell 0
        have y41 := y4a.cell 1
        have y42 := y4a.cell 2
        have y43 := y4a.cell 3
        have y44 := y4a.cell 4
        simp only [List.getElem?_toArray, List.getElem?_cons_zero, List.getElem?_cons_succ] at y40 y41 y42 y43 y44
        clear y4a
        go_wp2_with fail
        refine (HP2.out HN2.out _ HB4.out).mono ?_
        rw [HV2.out]
        rintro e w5 ⟨rfl, hb⟩
        clear x40 x41 x42 x43 x44 y40 y41 y42 y43 y44
        -- 4: number before, 5: number behind
        have HG5 := Lib.hid (HG4.out.below hb HG4.out.lt)
        have HH5 := Lib.hid (HH4.out.below hb HH4.out.lt)
        have HB5 := Lib.hid (HB4.out.trans (hb.mono HB4.out.size))
        have lg5 := HG5.out.lt
        have lh5 := HH5.out.lt
        clear hb
        have x5a := HG5.out
        have x50 := x5a.cell 0
        have x51 := x5a.cell 1
        have x52 := x5a.cell 2
        have x53 := x5a.cell 3
        have x54 := x5a.cell 4
        simp only [List.getElem?_toArray, List.getElem?_cons_zero, List.getElem?_cons_succ] at x50 x51 x52 x53 x54
        clear x5a
        have y5a := HH5.out
        have y50 := y5a.cell 0
        have y51 := y5a.cell 1
        have y52 := y5a.cell 2
        have y53 := y5a.cell 3
        have y54 := y5a.cell 4
        simp only [List.getElem?_toArray, List.getElem?_cons_zero, List.getElem?_cons_succ] at y50 y51 y52 y53 y54
        clear y5a
        go_wp2_with fail
        refine (differ_any _ _ G F W.heap.size _ (HGC.out.below HB5.out) (HHC.out.below HB5.out) HB5.out.size (fun x hx => (Right.assoc HR1.out x hx).1) (fun x hx => (Right.assoc HR2.out x hx).1) HQ.out ⟨Nat.le_trans HR1.out.ntok (by decide), Nat.le_trans HR1.out.nskip (by decide), Nat.le_trans HR1.out.nlev (by decide), Nat.le_trans HR1.out.nrule (by decide)⟩ ⟨Nat.le_trans HR2.out.ntok (by decide), Nat.le_trans HR2.out.nskip (by decide), Nat.le_trans HR2.out.nlev (by decide), Nat.le_trans HR2.out.nrule (by decide)⟩ (Right.few HR1.out (HN1.out HC1.out)).1 (Right.few HR1.out (HN1.out HC1.out)).2 (Right.few HR2.out (HN2.out HC2.out)).1 (Right.few HR2.out (HN2.out HC2.out)).2).mono ?_
        rintro e w6 ⟨rfl, hb⟩
        go_wp2_with fail
        go_ret
        exact ⟨rfl, HB5.out.trans (hb.mono HB5.out.size)⟩

end Go.Proofs.YtgmihbfikggkjaaDoor
