/-
  The walk of LexerPlaces: tronageref05's At, Name, Texts; lexer's Name.
  Cells that lie somewhere below a block ('Cl'); names, patterns, actions that can be: the walks of printer's isName, rises, patternCan, tokenCan, word, braced, actionCan.
  The walks of printer's all, at tokens, patterns, levels, rules, names; of slices.ContainsFunc and IndexFunc beneath it.
-/
import Derived.Test.YtpgmapjjjpcmfaaGreatDoorLwAA
import Derived.Test.YtpgmapjjjpcmfaaGreatDoorPrV
import Derived.BigQuiet
import Derived.Deep.QuietTactic
namespace Go.Proofs.YtpgmapjjjpcmfaaGreatDoor
open Go.RowKit
open Lx
set_option linter.unusedVariables false
set_option linter.unusedSimpArgs false


/-- Is all of it one name? -/
def nameB (l : List UInt8) : Bool := !l.isEmpty && decide ((nameOf l).length = l.length)

theorem name_any (s : ByteArray) (w : World) (hs : s.size ≤ 9223372036854775807) :
    Calls Tryz.prog 59 #[.string s] w fun e w' => e = .returned (.bool (nameB (bl s))) ∧ w = w' := by
  have hn : (nameOf (bl s)).length ≤ s.size := by have := nameOf_le (bl s); rwa [bl_length] at this
  have hnb : nameB (bl s) = (!s.toList.isEmpty && decide ((nameOf (bl s)).length = s.size)) := by unfold nameB; rw [toList_eq, bl_length]
  have HNB := Lib.hid hnb
  obtain ⟨N, hN⟩ : ∃ N, (nameOf (bl s)).length = N := ⟨_, rfl⟩
  rw [hN] at hn
  have HN := Lib.hid hN
  clear hnb hN
  go_enter Tryz.func59, Tryz.ntmps59
  cases he : s.toList.isEmpty with
  | true =>
    have HE := Lib.hid he
    go_wp2_with fail
    go_ret
    exact ⟨by rw [HNB.out, HE.out]; rfl, rfl⟩
  | false =>
    have HE := Lib.hid he
    go_wp2_with (go_at_call 83; refine (nameSize_any s _ hs).mono ?_; rw [HN.out]; rintro e w' ⟨rfl, rfl⟩)
    go_ret
    refine ⟨?_, rfl⟩
    rw [HNB.out, HE.out, HN.out]
    by_cases h : N = s.size
    · simp [h]
    · have : ((N : Int) == (s.size : Int)) = false := by rw [beq_eq_false_iff_ne]; omega
      simp [h, this]

theorem rName_any (s : ByteArray) (w : World) (hs : s.size ≤ 9223372036854775807) :
    Calls Tryz.prog 74 #[.string s] w fun e w' => e = .returned (.bool (nameB (bl s))) ∧ w = w' := by
  have hnb : nameB (bl s) = (!s.toList.isEmpty && decide ((nameOf (bl s)).length = s.size)) := by unfold nameB; rw [toList_eq, bl_length]
  have HNB := Lib.hid hnb
  clear hnb
  go_enter Tryz.func74, Tryz.ntmps74
  go_wp2_with fail
  go_loop [3] (fun i => ∃ k : Nat, k ≤ s.size ∧ i = .int .i64 (k : Int) ∧ (nameOf (bl s)).length = k + (if k = 0 then nameOf (bl s) else ((bl s).drop k).takeWhile isName).length) (fun i => s.size - (intOf i).toNat)
  case atStart => exact ⟨0, by omega, rfl, by simp⟩
  case round =>
    obtain ⟨k, hk, rfl, hn⟩ := hrel
    have HN := Lib.hid hn
    clear hn
    by_cases hlt : k < s.size
    · have HD := Lib.hid (bl_drop s k hlt)
      by_cases hl : isLetter s[k] = true
      · go_wp2_with (go_at_call 93; refine (letter2_any _ _).mono ?_; rintro e w' ⟨rfl, rfl⟩)
        go_round
        case rel =>
          refine ⟨k + 1, by omega, by go_num, ?_⟩
          rw [HN.out]
          by_cases h0 : k = 0
          · subst h0
            have e := HD.out
            simp only [List.drop_zero] at e
            rw [if_pos rfl, if_neg (by omega), e, name_cons, if_pos hl, List.takeWhile_cons_of_pos (letter_name hl)]
            simp; omega
          · rw [if_neg h0, if_neg (by omega), HD.out, List.takeWhile_cons_of_pos (letter_name hl)]
            simp; omega
        case measure => simp [intOf]; omega
      · have hl : isLetter s[k] = false := by simpa using hl
        by_cases h0 : k = 0
        · have hn : (nameOf (bl s)).length = k := by
            rw [HN.out, if_pos h0]
            subst h0
            have e := HD.out
            simp only [List.drop_zero] at e
            rw [e, name_cons, hl]; rfl
          have H := Lib.hid hn
          have hg : ((k : Int) == 0) = true := by rw [h0]; rfl
          have hg2 : (k == 0) = true := by rw [h0]; rfl
          clear hn h0
          go_wp2_with (go_at_call 93; refine (letter2_any _ _).mono ?_; rintro e w' ⟨rfl, rfl⟩)
          go_ret
          refine ⟨?_, rfl⟩
          rw [HNB.out, H.out, decide_eq_false (by omega), Bool.and_false]; rfl
        · have hg : ((k : Int) == 0) = false := by rw [beq_eq_false_iff_ne]; omega
          have hg2 : (k == 0) = false := by rw [beq_eq_false_iff_ne]; omega
          by_cases hd : isDigit s[k] = true
          · have H0 := Lib.hid h0
            clear h0
            go_wp2_with (first | (go_at_call 93; refine (letter2_any _ _).mono ?_; rintro e w' ⟨rfl, rfl⟩) | (go_at_call 94; refine (digit2_any _ _).mono ?_; rintro e w' ⟨rfl, rfl⟩))
            go_round
            case rel =>
              refine ⟨k + 1, by omega, by go_num, ?_⟩
              have hnm : isName s[k] = true := by unfold isName; rw [hd]; simp
              rw [HN.out, if_neg H0.out, if_neg (by omega), HD.out, List.takeWhile_cons_of_pos hnm]
              simp; omega
            case measure => simp [intOf]; omega
          · have hd : isDigit s[k] = false := by simpa using hd
            have hn : (nameOf (bl s)).length = k := by
              have hnm : ¬ isName s[k] = true := by unfold isName; rw [hd, hl]; simp
              rw [HN.out, if_neg h0, HD.out, List.takeWhile_cons_of_neg hnm]; simp
            have H := Lib.hid hn
            clear hn h0
            go_wp2_with (first | (go_at_call 93; refine (letter2_any _ _).mono ?_; rintro e w' ⟨rfl, rfl⟩) | (go_at_call 94; refine (digit2_any _ _).mono ?_; rintro e w' ⟨rfl, rfl⟩))
            go_ret
            refine ⟨?_, rfl⟩
            rw [HNB.out, H.out, decide_eq_false (by omega), Bool.and_false]; rfl
    · have hn : (nameOf (bl s)).length = s.size ∨ s.toList.isEmpty = true := by
        have e : (bl s).drop k = [] := List.drop_of_length_le (by rw [bl_length]; omega)
        by_cases h0 : k = 0
        · right
          subst h0
          rw [toList_eq]
          simp only [List.drop_zero] at e
          rw [e]; rfl
        · left
          rw [HN.out, if_neg h0, e]; simp; omega
      have hres : nameB (bl s) = !s.toList.isEmpty := by
        rw [HNB.out]
        rcases hn with h | h
        · rw [h]; simp
        · rw [h]; rfl
      have HR := Lib.hid hres
      clear hn hres
      go_wp2_with fail
      go_ret
      exact ⟨by rw [HR.out]; rfl, rfl⟩

theorem texts_any (b1 b2 : Nat) (w : World) (h1 : WordsAt w b1) (h2 : WordsAt w b2) :
    Calls Tryz.prog 56 #[.slice (some ⟨b1, 0, none⟩) 8 8, .slice (some ⟨b2, 0, none⟩) 8 8] w fun e w' => e = .returned (.bool true) ∧ ∃ n, w' = w.drewN n := by
  have H1 := Lib.hid h1
  have H2 := Lib.hid h2
  clear h1 h2
  go_enter Tryz.func56, Tryz.ntmps56
  go_wp2_with fail
  go_loopw [5] (fun i wr => ∃ (k n : Nat), k ≤ 8 ∧ i = .int .i64 (k : Int) ∧ wr = w.drewN n) (fun i _ => 8 - (intOf i).toNat)
  case atStart => exact ⟨0, 0, by omega, rfl, rfl⟩
  case round =>
    obtain ⟨k, n, hk, rfl, rfl⟩ := hrel
    by_cases hlt : k < 8
    · have cc := H1.out.cell hlt
      have dd := H2.out.cell hlt
      have t1 : ((str (wordAt k)).toList == (str (wordAt k)).toList) = true := by simp
      have t2 : ((str (wordAt k)).toList != (str (wordAt k)).toList) = false := by simp
      have hki : (k : Int) < 8 := by omega
      have hk0 : (0 : Int) ≤ (k : Int) := by omega
      go_wp2_with fail
      go_quiet (fail)
      go_wp2_with fail
      go_roundw
      case rel => exact ⟨k + 1, _, by omega, by go_num, rfl⟩
      case measure => simp [intOf]; omega
    · obtain rfl : k = 8 := by omega
      go_wp2_with fail
      go_ret
      exact ⟨rfl, n, rfl⟩

end Go.Proofs.YtpgmapjjjpcmfaaGreatDoor

namespace Go.Proofs.YtpgmapjjjpcmfaaGreatDoor
open Go.RowKit
open Lx
set_option linter.unusedVariables false
set_option linter.unusedSimpArgs false
set_option maxRecDepth 100000

/-- The cells xs lie at A, in a block below B. -/
structure Cl (w : World) (B : Nat) (A : Option Addr) (xs : List Value) : Prop where
  ex : xs ≠ [] → ∃ b o, A = some ⟨b, o, none⟩ ∧ b < B ∧ ∀ (j : Nat) (u : Value), xs[j]? = some u → w.cell? ⟨b, o + j, none⟩ = some u
theorem Cl.nil (w : World) (B : Nat) (A : Option Addr) : Cl w B A [] := ⟨fun h => absurd rfl h⟩
theorem Cl.below {w w' : World} {B : Nat} {A : Option Addr} {xs : List Value} (h : Cl w B A xs) (hb : Below B w w') : Cl w' B A xs := ⟨fun hn => by
  obtain ⟨b, o, h1, h2, h3⟩ := h.ex hn
  exact ⟨b, o, h1, h2, fun j u hu => (hb.cell (p := ⟨b, _, none⟩) h2).trans (h3 j u hu)⟩⟩
theorem Cl.mono {w : World} {B B' : Nat} {A : Option Addr} {xs : List Value} (h : Cl w B A xs) (hB : B ≤ B') : Cl w B' A xs := ⟨fun hn => by
  obtain ⟨b, o, h1, h2, h3⟩ := h.ex hn
  exact ⟨b, o, h1, by omega, h3⟩⟩
theorem Lie.cl {w : World} {t : TypeId} {A : Option Addr} {xs : List Value} (h : Lie w t A xs) : Cl w w.heap.size A xs := ⟨fun hn => h.cell hn⟩
/-- A value that is the list of names l. -/
def NmC (w : World) (B : Nat) (v : Value) (l : List Rd.Name) : Prop := ∃ A cap, v = .slice A l.length cap ∧ Cl w B A (namesV l)
theorem NmC.below {w w' : World} {B : Nat} {v : Value} {l : List Rd.Name} (h : NmC w B v l) (hb : Below B w w') : NmC w' B v l := by
  obtain ⟨A, cap, h1, h2⟩ := h; exact ⟨A, cap, h1, h2.below hb⟩
theorem NmC.mono {w : World} {B B' : Nat} {v : Value} {l : List Rd.Name} (h : NmC w B v l) (hB : B ≤ B') : NmC w B' v l := by
  obtain ⟨A, cap, h1, h2⟩ := h; exact ⟨A, cap, h1, h2.mono hB⟩

theorem nameOf_same (n : List UInt8) : decide ((nameOf n).length = n.length) = (nameOf n == n) := by
  cases n with
  | nil => rfl
  | cons c t =>
    have e : nameOf (c :: t) = if isLetter c then (c :: t).takeWhile isName else [] := rfl
    rw [e]
    by_cases hc : isLetter c = true
    · rw [if_pos hc]
      by_cases h : (c :: t).takeWhile isName = c :: t
      · rw [h]; simp
      · have : ((c :: t).takeWhile isName).length ≠ (c :: t).length := fun hl => h ((List.takeWhile_prefix _).eq_of_length hl)
        rw [decide_eq_false this, beq_eq_false_iff_ne.2 h]
    · rw [if_neg hc]; rfl
theorem nameOk_eq (n : List UInt8) : Pr.nameOk n = (decide (n.length ≤ 32) && nameB n) := by
  unfold Pr.nameOk nameB
  rw [nameOf_same]
  congr 2
  cases n <;> rfl

theorem isName_any (n : Rd.Name) (w : World) (hn : n.length ≤ 9223372036854775807) :
    Calls Tryz.prog 24 #[.string (str n)] w fun e w' => e = .returned (.bool (Pr.nameOk n)) ∧ w = w' := by
  rw [nameOk_eq]
  obtain ⟨T, hT⟩ : ∃ T, str n = T := ⟨_, rfl⟩
  have hb : bl T = n := by rw [← hT, bl_str]
  have hs : T.size = n.length := by rw [← bl_length, hb]
  rw [hT]
  clear hT
  by_cases h : n.length ≤ 32
  · have h1 : (T.size : Int) ≤ 32 := by omega
    have H := Lib.hid h
    clear h
    go_enter Tryz.func24, Tryz.ntmps24
    go_wp2_with fail
    refine (name_any T _ (by omega)).mono ?_
    rintro e w' ⟨rfl, rfl⟩
    rw [hb]
    go_wp2_with fail
    go_ret
    exact ⟨by rw [decide_eq_true H.out]; rfl, rfl⟩
  · have h1 : ¬ (T.size : Int) ≤ 32 := by omega
    have H := Lib.hid h
    clear h
    go_enter Tryz.func24, Tryz.ntmps24
    go_wp2_with fail
    go_ret
    exact ⟨by rw [decide_eq_false H.out]; rfl, rfl⟩

theorem prises_any (s : ByteArray) (w : World) (hs : s.size ≤ 140737488355328) :
    Calls Tryz.prog 64 #[.string s] w fun e w' => e = .returned (.bool (Pr.rises (bl s))) ∧ ∃ m, w' = w.drewN m := by
  go_enter Tryz.func64, Tryz.ntmps64
  go_wp2_with fail
  go_loopw [3] (fun i wr => ∃ (k m : Nat), (k + 1 ≤ s.size ∨ k = 0) ∧ i = .int .i64 ((k : Int) + 1) ∧ wr = w.drewN m ∧ Pr.rises (bl s) = Pr.rises ((bl s).drop k)) (fun i _ => s.size + 1 - (intOf i).toNat)
  case atStart => exact ⟨0, 0, .inr rfl, rfl, rfl, rfl⟩
  case round =>
    obtain ⟨k, m, hk, rfl, rfl, hr⟩ := hrel
    by_cases hlt : k + 1 < s.size
    · have h0 : k < s.size := by omega
      have hd := bl_drop s k h0
      rw [bl_drop s (k + 1) hlt] at hd
      rw [hd] at hr
      have hki : (k : Int) + 1 < (s.size : Int) := by omega
      have hki2 : (k : Int) < (s.size : Int) := by omega
      have hk0 : (0 : Int) ≤ (k : Int) := by omega
      have hk1 : (0 : Int) ≤ (k : Int) + 1 := by omega
      have HD := Lib.hid (bl_drop s (k + 1) hlt)
      clear hd
      by_cases hc : s[k] < s[k + 1]
      · have c1 : ¬ ((s[k + 1].toNat : Int) ≤ (s[k].toNat : Int)) := by have := UInt8.lt_iff_toNat_lt.1 hc; omega
        have hr2 : Pr.rises (bl s) = Pr.rises ((bl s).drop (k + 1)) := by
          rw [hr, HD.out, Pr.rises]; simp [hc]
        have HR := Lib.hid hr2
        clear hr hr2 hc
        go_wp2_with fail
        go_quiet (fail)
        go_wp2_with fail
        go_roundw
        case rel => exact ⟨k + 1, _, .inl (by omega), by go_num, rfl, HR.out⟩
        case measure => simp [intOf]; omega
      · have c1 : (s[k + 1].toNat : Int) ≤ (s[k].toNat : Int) := by
          have : ¬ s[k].toNat < s[k + 1].toNat := fun h => hc (UInt8.lt_iff_toNat_lt.2 h)
          omega
        have hr2 : Pr.rises (bl s) = false := by
          rw [hr, Pr.rises]; simp [hc]
        have HR := Lib.hid hr2
        clear hr hr2 hc
        go_wp2_with fail
        go_quiet (fail)
        go_wp2_with fail
        go_ret
        exact ⟨by rw [HR.out]; rfl, _, World.drewN_drewN _ _ _⟩
    · have hr2 : Pr.rises (bl s) = true := by
        rw [hr]
        have : ((bl s).drop k).length ≤ 1 := by rw [List.length_drop, bl_length]; omega
        match (bl s).drop k, this with
        | [], _ => rfl
        | [a], _ => rfl
        | a :: b :: r, h => simp at h
      have HR := Lib.hid hr2
      clear hr hr2
      have hge : (s.size : Int) ≤ (k : Int) + 1 := by omega
      go_wp2_with fail
      go_ret
      exact ⟨by rw [HR.out]; rfl, m, rfl⟩

set_option maxHeartbeats 1000000 in
theorem patCan_any (p : Rd.Pat) (w : World) (h1 : p.text.length ≤ 140737488355328) (h2 : p.set.length ≤ 140737488355328) :
    Calls Tryz.prog 28 #[patV p] w fun e w' => e = .returned (.bool (Pr.patOk p)) ∧ Below w.heap.size w w' := by
  obtain ⟨t, st, m⟩ := p
  simp only [] at h1 h2
  unfold patV
  simp only []
  obtain ⟨T, hT⟩ : ∃ T, str t = T := ⟨_, rfl⟩
  obtain ⟨S, hS⟩ : ∃ S, str st = S := ⟨_, rfl⟩
  have hbT : bl T = t := by rw [← hT, bl_str]
  have hbS : bl S = st := by rw [← hS, bl_str]
  have hTs : T.size = t.length := by rw [← bl_length, hbT]
  have hSs : S.size = st.length := by rw [← bl_length, hbS]
  rw [hT, hS]
  have HS := Lib.hid hbS
  have HB := Lib.hid ((Below.refl w.heap.size w).alloc (Nat.le_refl _) (.cells #[.string T, .string S, .bool m] 39))
  have hTe : T.toList.isEmpty = decide (t = []) := by rw [toList_eq, hbT]; cases t <;> rfl
  have hSe : S.toList.isEmpty = decide (st = []) := by rw [toList_eq, hbS]; cases st <;> rfl
  clear hT hS hbT hbS
  by_cases ht : t = []
  · rw [decide_eq_true ht] at hTe
    have e : Pr.patOk ⟨t, st, m⟩ = (st != [] && Pr.rises st) := by unfold Pr.patOk; rw [if_pos ht]
    rw [e]
    clear e ht
    by_cases hs : st = []
    · rw [decide_eq_true hs] at hSe
      have HSS := Lib.hid hs
      clear hs
      go_enter Tryz.func28, Tryz.ntmps28
      go_wp2_with fail
      go_ret
      exact ⟨by rw [HSS.out]; rfl, HB.out⟩
    · rw [decide_eq_false hs] at hSe
      have HSS := Lib.hid hs
      clear hs
      go_enter Tryz.func28, Tryz.ntmps28
      go_wp2_with fail
      refine (prises_any S _ (by omega)).mono ?_
      rintro e w' ⟨rfl, q, rfl⟩
      rw [HS.out]
      go_wp2_with fail
      go_ret
      exact ⟨by rw [bne_iff_ne.2 HSS.out]; rfl, below_drewN HB.out _⟩
  · rw [decide_eq_false ht] at hTe
    have e : Pr.patOk ⟨t, st, m⟩ = (decide (t.length ≤ 32) && (decide (st = []) && !m)) := by
      unfold Pr.patOk; rw [if_neg ht]
      simp only []
      congr 2
      cases st <;> rfl
    rw [e]
    clear e ht
    have c3 : ((S.toList == (⟨#[]⟩ : ByteArray).toList)) = decide (st = []) := by
      rw [show (⟨#[]⟩ : ByteArray) = str [] from rfl, str_beq, HS.out]
      cases st <;> rfl
    by_cases h32 : t.length ≤ 32
    · have h3 : (T.size : Int) ≤ 32 := by omega
      have H := Lib.hid h32
      clear h32
      by_cases hs : st = []
      · rw [decide_eq_true hs] at hSe c3
        have HSS := Lib.hid hs
        clear hs
        go_enter Tryz.func28, Tryz.ntmps28
        go_wp2_with fail
        go_ret
        exact ⟨by rw [decide_eq_true H.out, decide_eq_true HSS.out]; rfl, HB.out⟩
      · rw [decide_eq_false hs] at hSe c3
        have HSS := Lib.hid hs
        clear hs
        go_enter Tryz.func28, Tryz.ntmps28
        go_wp2_with fail
        go_ret
        exact ⟨by rw [decide_eq_true H.out, decide_eq_false HSS.out]; rfl, HB.out⟩
    · have h3 : ¬ (T.size : Int) ≤ 32 := by omega
      have H := Lib.hid h32
      clear h32
      go_enter Tryz.func28, Tryz.ntmps28
      go_wp2_with fail
      go_ret
      exact ⟨by rw [decide_eq_false H.out]; rfl, HB.out⟩

end Go.Proofs.YtpgmapjjjpcmfaaGreatDoor

namespace Go.Proofs.YtpgmapjjjpcmfaaGreatDoor
open Go.RowKit
open Lx
set_option linter.unusedVariables false
set_option linter.unusedSimpArgs false
set_option maxRecDepth 100000

/-- A level as an argument has it: its way may be any number. -/
def levC (p : Rd.Lev × Value × Int) : List Value := [.int .i64 p.2.2, p.2.1]
def levsC (l : List (Rd.Lev × Value × Int)) : List Value := l.flatMap levC
theorem namesV_get {l : List Rd.Name} {k : Nat} {x : Rd.Name} (h : l[k]? = some x) : (namesV l)[k]? = some (.string (str x)) := by simp [namesV, h]
theorem all_take {α : Type} {p : α → Bool} {l : List α} {k : Nat} {x : α} (hx : l[k]? = some x) (h : ∀ y ∈ l.take k, p y = true) (hp : p x = true) : ∀ y ∈ l.take (k + 1), p y = true := by
  intro y hy
  rw [List.take_add_one, hx] at hy
  rcases List.mem_append.1 hy with h1 | h1
  · exact h y h1
  · simp at h1; subst h1; exact hp

/-! ## Tok -/
theorem cloTok (x : Rd.Tok) (b : Bool) (g : Nat) (w : World) (hg : w.cell? ⟨g, 0, none⟩ = some (.func (.func 26) #[] #[])) (hgl : g < w.heap.size)
    (hc : ∀ w', Below w.heap.size w w' → Calls Tryz.prog 26 #[.agg #[.string (str x.name), .string (str x.pat.text), .string (str x.pat.set), .bool x.pat.many]] w' fun e w'' => e = .returned (.bool b) ∧ Below w'.heap.size w' w'') :
    Calls Tryz.prog 61 #[.agg #[.string (str x.name), .string (str x.pat.text), .string (str x.pat.set), .bool x.pat.many], .pointer (some ⟨g, 0, none⟩)] w fun e w' => e = .returned (.bool !b) ∧ Below w.heap.size w w' := by
  generalize str x.name = X0 at hc ⊢
  generalize str x.pat.text = X1 at hc ⊢
  generalize str x.pat.set = X2 at hc ⊢
  generalize x.pat.many = X3 at hc ⊢
  have HC := Lib.hid hc
  have hb := (Below.refl w.heap.size w).alloc (Nat.le_refl _) (.cells #[.string X0, .string X1, .string X2, .bool X3] 41)
  have HB := Lib.hid hb
  clear hc hb
  go_enter Tryz.func61, Tryz.ntmps61
  go_wp2_with fail
  refine (HC.out _ HB.out).mono ?_
  rintro e w2 ⟨rfl, hb2⟩
  go_wp2_with fail
  go_ret
  exact ⟨rfl, HB.out.trans (hb2.mono HB.out.size)⟩
set_option maxHeartbeats 2000000 in
theorem idxTok (l : List (Rd.Tok)) (p : Rd.Tok → Bool) (B g : Nat) (A : Option Addr) (cap : Nat) (w : World) (hl : Cl w B A (toksV l)) (hB : B ≤ w.heap.size) (hn : l.length ≤ 140737488355328) (hg : w.cell? ⟨g, 0, none⟩ = some (.func (.func 26) #[] #[])) (hgl : g < w.heap.size)
    (hc : ∀ x ∈ l, ∀ w', Below B w w' → w.heap.size ≤ w'.heap.size → Calls Tryz.prog 26 #[.agg #[.string (str x.name), .string (str x.pat.text), .string (str x.pat.set), .bool x.pat.many]] w' fun e w'' => e = .returned (.bool (p x)) ∧ Below w'.heap.size w' w'') :
    Calls Tryz.prog 84 #[.slice A l.length cap, .func (.func 61) #[] #[.pointer (some ⟨g, 0, none⟩)]] w fun e w' => (∃ k : Int, e = .returned (.int .i64 k) ∧ IdxTells k (!l.all p)) ∧ Below w.heap.size w w' := by
  have HL := Lib.hid hl
  have HC := Lib.hid hc
  have HN := Lib.hid hn
  obtain ⟨n, hnn⟩ : ∃ n, l.length = n := ⟨_, rfl⟩
  rw [hnn] at hn ⊢
  have HNN := Lib.hid hnn
  clear hl hc hnn
  go_enter Tryz.func84, Tryz.ntmps84
  go_wp2_with fail
  go_loopw [8] (fun i wr => ∃ k : Nat, k ≤ n ∧ i = .int .i64 (k : Int) ∧ (∀ y ∈ l.take k, p y = true) ∧ Below w.heap.size w wr) (fun i _ => n - (intOf i).toNat)
  case atStart => exact ⟨0, by omega, rfl, by simp, Below.refl _ _⟩
  case round =>
    obtain ⟨k, hk, rfl, hyes, hb⟩ := hrel
    have HY := Lib.hid hyes
    have HB := Lib.hid hb
    clear hyes hb
    by_cases hlt : k < n
    · obtain ⟨x, ht⟩ := some_get (l := l) (i := k) (by rw [HNN.out]; exact hlt)
      obtain ⟨b, o, hA, hbl, hcell⟩ := (HL.out.below (HB.out.mono hB)).ex (fun e => by
        have h1 : (toksV l)[k * 4 + 0]? = some (.string (str x.name)) := flat_get Rd.Tok.cells 4 (fun _ => rfl) l k 0 x _ ht (by omega) rfl
        rw [e] at h1; simp at h1)
      subst hA
      have c0 : wr.cell? ⟨b, o + k * 4, none⟩ = some (.string (str x.name)) := hcell _ _ (flat_get Rd.Tok.cells 4 (fun _ => rfl) l k 0 x _ ht (by omega) rfl)
      have c1 : wr.cell? ⟨b, o + k * 4 + 1, none⟩ = some (.string (str x.pat.text)) := by rw [Nat.add_assoc]; exact hcell _ _ (flat_get Rd.Tok.cells 4 (fun _ => rfl) l k 1 x _ ht (by omega) rfl)
      have c2 : wr.cell? ⟨b, o + k * 4 + 2, none⟩ = some (.string (str x.pat.set)) := by rw [Nat.add_assoc]; exact hcell _ _ (flat_get Rd.Tok.cells 4 (fun _ => rfl) l k 2 x _ ht (by omega) rfl)
      have c3 : wr.cell? ⟨b, o + k * 4 + 3, none⟩ = some (.bool x.pat.many) := by rw [Nat.add_assoc]; exact hcell _ _ (flat_get Rd.Tok.cells 4 (fun _ => rfl) l k 3 x _ ht (by omega) rfl)
      have hg2 : wr.cell? ⟨g, 0, none⟩ = some (.func (.func 26) #[] #[]) := (HB.out.cell (p := ⟨g, 0, none⟩) hgl).trans hg
      have hgl2 : g < wr.heap.size := by have := HB.out.size; omega
      have hki : (k : Int) < (n : Int) := by omega
      have hk0 : (0 : Int) ≤ (k : Int) := by omega
      have hcx : ∀ w', Below wr.heap.size wr w' → Calls Tryz.prog 26 #[.agg #[.string (str x.name), .string (str x.pat.text), .string (str x.pat.set), .bool x.pat.many]] w' fun e w'' => e = .returned (.bool (p x)) ∧ Below w'.heap.size w' w'' := fun w' hw' => HC.out x (List.mem_of_getElem? ht) w' ((HB.out.trans (hw'.mono HB.out.size)).mono hB) (Nat.le_trans HB.out.size hw'.size)
      have hclo := cloTok x (p x) g wr hg2 hgl2 hcx
      have HT := Lib.hid ht
      clear hcell hcx
      cases hq : p x with
      | false =>
        rw [hq] at hclo
        have HCLO := Lib.hid hclo
        have HALL := Lib.hid (show l.all p = false by
          rw [List.all_eq_false]
          exact ⟨x, List.mem_of_getElem? ht, by rw [hq]; decide⟩)
        clear ht hq hclo
        go_wp2_with fail
        refine HCLO.out.mono ?_
        rintro e w2 ⟨rfl, hb2⟩
        go_wp2_with fail
        go_ret
        exact ⟨⟨_, rfl, by unfold IdxTells; rw [if_pos (by rw [HALL.out]; rfl)]; omega⟩, HB.out.trans (hb2.mono HB.out.size)⟩
      | true =>
        rw [hq] at hclo
        have HCLO := Lib.hid hclo
        have HQ := Lib.hid hq
        clear ht hq hclo
        go_wp2_with fail
        refine HCLO.out.mono ?_
        rintro e w2 ⟨rfl, hb2⟩
        go_wp2_with fail
        go_roundw
        case rel => exact ⟨k + 1, by omega, by go_num, all_take HT.out HY.out HQ.out, HB.out.trans (hb2.mono HB.out.size)⟩
        case measure => simp [intOf]; omega
    · obtain rfl : n = k := by omega
      have HALL := Lib.hid (show l.all p = true by
        rw [List.all_eq_true]
        have := HY.out
        rwa [← HNN.out, List.take_length] at this)
      go_wp2_with fail
      go_ret
      exact ⟨⟨_, rfl, by unfold IdxTells; rw [if_neg (by rw [HALL.out]; decide)]⟩, HB.out⟩

theorem conTok (l : List (Rd.Tok)) (p : Rd.Tok → Bool) (B g : Nat) (A : Option Addr) (cap : Nat) (w : World) (hl : Cl w B A (toksV l)) (hB : B ≤ w.heap.size) (hn : l.length ≤ 140737488355328) (hg : w.cell? ⟨g, 0, none⟩ = some (.func (.func 26) #[] #[])) (hgl : g < w.heap.size)
    (hc : ∀ x ∈ l, ∀ w', Below B w w' → w.heap.size ≤ w'.heap.size → Calls Tryz.prog 26 #[.agg #[.string (str x.name), .string (str x.pat.text), .string (str x.pat.set), .bool x.pat.many]] w' fun e w'' => e = .returned (.bool (p x)) ∧ Below w'.heap.size w' w'') :
    Calls Tryz.prog 60 #[.slice A l.length cap, .func (.func 61) #[] #[.pointer (some ⟨g, 0, none⟩)]] w fun e w' => e = .returned (.bool (!l.all p)) ∧ Below w.heap.size w w' := by
  have HI := Lib.hid (idxTok l p B g A cap w hl hB hn hg hgl hc)
  clear hl hg hc
  cases hq : l.all p with
  | false =>
    rw [hq] at HI
    clear hq
    go_enter Tryz.func60, Tryz.ntmps60
    go_wp2_with fail
    refine HI.out.mono ?_
    rintro e w1 ⟨⟨k, rfl, hk⟩, hb⟩
    have hk : 0 ≤ k := hk
    go_wp2_with fail
    go_ret
    exact ⟨rfl, hb⟩
  | true =>
    rw [hq] at HI
    clear hq
    go_enter Tryz.func60, Tryz.ntmps60
    go_wp2_with fail
    refine HI.out.mono ?_
    rintro e w1 ⟨⟨k, rfl, hk⟩, hb⟩
    obtain rfl : k = -1 := hk
    go_wp2_with fail
    go_ret
    exact ⟨rfl, hb⟩

theorem allTok (l : List (Rd.Tok)) (p : Rd.Tok → Bool) (B : Nat) (A : Option Addr) (cap : Nat) (w : World) (hl : Cl w B A (toksV l)) (hB : B ≤ w.heap.size) (hn : l.length ≤ 140737488355328)
    (hc : ∀ x ∈ l, ∀ w', Below B w w' → w.heap.size ≤ w'.heap.size → Calls Tryz.prog 26 #[.agg #[.string (str x.name), .string (str x.pat.text), .string (str x.pat.set), .bool x.pat.many]] w' fun e w'' => e = .returned (.bool (p x)) ∧ Below w'.heap.size w' w'') :
    Calls Tryz.prog 25 #[.slice A l.length cap, .func (.func 26) #[] #[]] w fun e w' => e = .returned (.bool (l.all p)) ∧ Below w.heap.size w w' := by
  have hb := (Below.refl w.heap.size w).alloc (Nat.le_refl _) (.cells #[.func (.func 26) #[] #[]] 63)
  have hat := At.new w 63 #[.func (.func 26) #[] #[]]
  have hc0 := hat.cell 0
  simp only [List.getElem?_toArray, List.getElem?_cons_zero] at hc0
  have HI := Lib.hid (conTok l p B w.heap.size A cap _ (hl.below (hb.mono hB)) (Nat.le_trans hB hb.size) hn hc0 hat.lt (fun x hx w' hw' hs' => hc x hx w' ((hb.mono hB).trans hw') (Nat.le_trans hb.size hs')))
  have HB := Lib.hid hb
  clear hl hc hb hat hc0
  go_enter Tryz.func25, Tryz.ntmps25
  go_wp2_with fail
  refine HI.out.mono ?_
  rintro e w1 ⟨rfl, hb1⟩
  go_wp2_with fail
  go_ret
  exact ⟨by simp, HB.out.trans (hb1.mono HB.out.size)⟩

/-! ## Pat -/
theorem cloPat (x : Rd.Pat) (b : Bool) (g : Nat) (w : World) (hg : w.cell? ⟨g, 0, none⟩ = some (.func (.func 28) #[] #[])) (hgl : g < w.heap.size)
    (hc : ∀ w', Below w.heap.size w w' → Calls Tryz.prog 28 #[.agg #[.string (str x.text), .string (str x.set), .bool x.many]] w' fun e w'' => e = .returned (.bool b) ∧ Below w'.heap.size w' w'') :
    Calls Tryz.prog 63 #[.agg #[.string (str x.text), .string (str x.set), .bool x.many], .pointer (some ⟨g, 0, none⟩)] w fun e w' => e = .returned (.bool !b) ∧ Below w.heap.size w w' := by
  generalize str x.text = X0 at hc ⊢
  generalize str x.set = X1 at hc ⊢
  generalize x.many = X2 at hc ⊢
  have HC := Lib.hid hc
  have hb := (Below.refl w.heap.size w).alloc (Nat.le_refl _) (.cells #[.string X0, .string X1, .bool X2] 39)
  have HB := Lib.hid hb
  clear hc hb
  go_enter Tryz.func63, Tryz.ntmps63
  go_wp2_with fail
  refine (HC.out _ HB.out).mono ?_
  rintro e w2 ⟨rfl, hb2⟩
  go_wp2_with fail
  go_ret
  exact ⟨rfl, HB.out.trans (hb2.mono HB.out.size)⟩
set_option maxHeartbeats 2000000 in
theorem idxPat (l : List (Rd.Pat)) (p : Rd.Pat → Bool) (B g : Nat) (A : Option Addr) (cap : Nat) (w : World) (hl : Cl w B A (patsV l)) (hB : B ≤ w.heap.size) (hn : l.length ≤ 140737488355328) (hg : w.cell? ⟨g, 0, none⟩ = some (.func (.func 28) #[] #[])) (hgl : g < w.heap.size)
    (hc : ∀ x ∈ l, ∀ w', Below B w w' → w.heap.size ≤ w'.heap.size → Calls Tryz.prog 28 #[.agg #[.string (str x.text), .string (str x.set), .bool x.many]] w' fun e w'' => e = .returned (.bool (p x)) ∧ Below w'.heap.size w' w'') :
    Calls Tryz.prog 85 #[.slice A l.length cap, .func (.func 63) #[] #[.pointer (some ⟨g, 0, none⟩)]] w fun e w' => (∃ k : Int, e = .returned (.int .i64 k) ∧ IdxTells k (!l.all p)) ∧ Below w.heap.size w w' := by
  have HL := Lib.hid hl
  have HC := Lib.hid hc
  have HN := Lib.hid hn
  obtain ⟨n, hnn⟩ : ∃ n, l.length = n := ⟨_, rfl⟩
  rw [hnn] at hn ⊢
  have HNN := Lib.hid hnn
  clear hl hc hnn
  go_enter Tryz.func85, Tryz.ntmps85
  go_wp2_with fail
  go_loopw [8] (fun i wr => ∃ k : Nat, k ≤ n ∧ i = .int .i64 (k : Int) ∧ (∀ y ∈ l.take k, p y = true) ∧ Below w.heap.size w wr) (fun i _ => n - (intOf i).toNat)
  case atStart => exact ⟨0, by omega, rfl, by simp, Below.refl _ _⟩
  case round =>
    obtain ⟨k, hk, rfl, hyes, hb⟩ := hrel
    have HY := Lib.hid hyes
    have HB := Lib.hid hb
    clear hyes hb
    by_cases hlt : k < n
    · obtain ⟨x, ht⟩ := some_get (l := l) (i := k) (by rw [HNN.out]; exact hlt)
      obtain ⟨b, o, hA, hbl, hcell⟩ := (HL.out.below (HB.out.mono hB)).ex (fun e => by
        have h1 : (patsV l)[k * 3 + 0]? = some (.string (str x.text)) := flat_get Rd.Pat.cells 3 (fun _ => rfl) l k 0 x _ ht (by omega) rfl
        rw [e] at h1; simp at h1)
      subst hA
      have c0 : wr.cell? ⟨b, o + k * 3, none⟩ = some (.string (str x.text)) := hcell _ _ (flat_get Rd.Pat.cells 3 (fun _ => rfl) l k 0 x _ ht (by omega) rfl)
      have c1 : wr.cell? ⟨b, o + k * 3 + 1, none⟩ = some (.string (str x.set)) := by rw [Nat.add_assoc]; exact hcell _ _ (flat_get Rd.Pat.cells 3 (fun _ => rfl) l k 1 x _ ht (by omega) rfl)
      have c2 : wr.cell? ⟨b, o + k * 3 + 2, none⟩ = some (.bool x.many) := by rw [Nat.add_assoc]; exact hcell _ _ (flat_get Rd.Pat.cells 3 (fun _ => rfl) l k 2 x _ ht (by omega) rfl)
      have hg2 : wr.cell? ⟨g, 0, none⟩ = some (.func (.func 28) #[] #[]) := (HB.out.cell (p := ⟨g, 0, none⟩) hgl).trans hg
      have hgl2 : g < wr.heap.size := by have := HB.out.size; omega
      have hki : (k : Int) < (n : Int) := by omega
      have hk0 : (0 : Int) ≤ (k : Int) := by omega
      have hcx : ∀ w', Below wr.heap.size wr w' → Calls Tryz.prog 28 #[.agg #[.string (str x.text), .string (str x.set), .bool x.many]] w' fun e w'' => e = .returned (.bool (p x)) ∧ Below w'.heap.size w' w'' := fun w' hw' => HC.out x (List.mem_of_getElem? ht) w' ((HB.out.trans (hw'.mono HB.out.size)).mono hB) (Nat.le_trans HB.out.size hw'.size)
      have hclo := cloPat x (p x) g wr hg2 hgl2 hcx
      have HT := Lib.hid ht
      clear hcell hcx
      cases hq : p x with
      | false =>
        rw [hq] at hclo
        have HCLO := Lib.hid hclo
        have HALL := Lib.hid (show l.all p = false by
          rw [List.all_eq_false]
          exact ⟨x, List.mem_of_getElem? ht, by rw [hq]; decide⟩)
        clear ht hq hclo
        go_wp2_with fail
        refine HCLO.out.mono ?_
        rintro e w2 ⟨rfl, hb2⟩
        go_wp2_with fail
        go_ret
        exact ⟨⟨_, rfl, by unfold IdxTells; rw [if_pos (by rw [HALL.out]; rfl)]; omega⟩, HB.out.trans (hb2.mono HB.out.size)⟩
      | true =>
        rw [hq] at hclo
        have HCLO := Lib.hid hclo
        have HQ := Lib.hid hq
        clear ht hq hclo
        go_wp2_with fail
        refine HCLO.out.mono ?_
        rintro e w2 ⟨rfl, hb2⟩
        go_wp2_with fail
        go_roundw
        case rel => exact ⟨k + 1, by omega, by go_num, all_take HT.out HY.out HQ.out, HB.out.trans (hb2.mono HB.out.size)⟩
        case measure => simp [intOf]; omega
    · obtain rfl : n = k := by omega
      have HALL := Lib.hid (show l.all p = true by
        rw [List.all_eq_true]
        have := HY.out
        rwa [← HNN.out, List.take_length] at this)
      go_wp2_with fail
      go_ret
      exact ⟨⟨_, rfl, by unfold IdxTells; rw [if_neg (by rw [HALL.out]; decide)]⟩, HB.out⟩

theorem conPat (l : List (Rd.Pat)) (p : Rd.Pat → Bool) (B g : Nat) (A : Option Addr) (cap : Nat) (w : World) (hl : Cl w B A (patsV l)) (hB : B ≤ w.heap.size) (hn : l.length ≤ 140737488355328) (hg : w.cell? ⟨g, 0, none⟩ = some (.func (.func 28) #[] #[])) (hgl : g < w.heap.size)
    (hc : ∀ x ∈ l, ∀ w', Below B w w' → w.heap.size ≤ w'.heap.size → Calls Tryz.prog 28 #[.agg #[.string (str x.text), .string (str x.set), .bool x.many]] w' fun e w'' => e = .returned (.bool (p x)) ∧ Below w'.heap.size w' w'') :
    Calls Tryz.prog 62 #[.slice A l.length cap, .func (.func 63) #[] #[.pointer (some ⟨g, 0, none⟩)]] w fun e w' => e = .returned (.bool (!l.all p)) ∧ Below w.heap.size w w' := by
  have HI := Lib.hid (idxPat l p B g A cap w hl hB hn hg hgl hc)
  clear hl hg hc
  cases hq : l.all p with
  | false =>
    rw [hq] at HI
    clear hq
    go_enter Tryz.func62, Tryz.ntmps62
    go_wp2_with fail
    refine HI.out.mono ?_
    rintro e w1 ⟨⟨k, rfl, hk⟩, hb⟩
    have hk : 0 ≤ k := hk
    go_wp2_with fail
    go_ret
    exact ⟨rfl, hb⟩
  | true =>
    rw [hq] at HI
    clear hq
    go_enter Tryz.func62, Tryz.ntmps62
    go_wp2_with fail
    refine HI.out.mono ?_
    rintro e w1 ⟨⟨k, rfl, hk⟩, hb⟩
    obtain rfl : k = -1 := hk
    go_wp2_with fail
    go_ret
    exact ⟨rfl, hb⟩

theorem allPat (l : List (Rd.Pat)) (p : Rd.Pat → Bool) (B : Nat) (A : Option Addr) (cap : Nat) (w : World) (hl : Cl w B A (patsV l)) (hB : B ≤ w.heap.size) (hn : l.length ≤ 140737488355328)
    (hc : ∀ x ∈ l, ∀ w', Below B w w' → w.heap.size ≤ w'.heap.size → Calls Tryz.prog 28 #[.agg #[.string (str x.text), .string (str x.set), .bool x.many]] w' fun e w'' => e = .returned (.bool (p x)) ∧ Below w'.heap.size w' w'') :
    Calls Tryz.prog 27 #[.slice A l.length cap, .func (.func 28) #[] #[]] w fun e w' => e = .returned (.bool (l.all p)) ∧ Below w.heap.size w w' := by
  have hb := (Below.refl w.heap.size w).alloc (Nat.le_refl _) (.cells #[.func (.func 28) #[] #[]] 65)
  have hat := At.new w 65 #[.func (.func 28) #[] #[]]
  have hc0 := hat.cell 0
  simp only [List.getElem?_toArray, List.getElem?_cons_zero] at hc0
  have HI := Lib.hid (conPat l p B w.heap.size A cap _ (hl.below (hb.mono hB)) (Nat.le_trans hB hb.size) hn hc0 hat.lt (fun x hx w' hw' hs' => hc x hx w' ((hb.mono hB).trans hw') (Nat.le_trans hb.size hs')))
  have HB := Lib.hid hb
  clear hl hc hb hat hc0
  go_enter Tryz.func27, Tryz.ntmps27
  go_wp2_with fail
  refine HI.out.mono ?_
  rintro e w1 ⟨rfl, hb1⟩
  go_wp2_with fail
  go_ret
  exact ⟨by simp, HB.out.trans (hb1.mono HB.out.size)⟩

/-! ## Lev -/
theorem cloLev (x : Rd.Lev × Value × Int) (b : Bool) (hv : ∃ A n c, x.2.1 = .slice A n c) (g : Nat) (w : World) (hg : w.cell? ⟨g, 0, none⟩ = some (.func (.func 30) #[] #[])) (hgl : g < w.heap.size)
    (hc : ∀ w', Below w.heap.size w w' → Calls Tryz.prog 30 #[.agg #[.int .i64 x.2.2, x.2.1]] w' fun e w'' => e = .returned (.bool b) ∧ Below w'.heap.size w' w'') :
    Calls Tryz.prog 66 #[.agg #[.int .i64 x.2.2, x.2.1], .pointer (some ⟨g, 0, none⟩)] w fun e w' => e = .returned (.bool !b) ∧ Below w.heap.size w w' := by
  obtain ⟨A', n', c', hv⟩ := hv
  rw [hv] at hc ⊢
  clear hv
  generalize x.2.2 = X0 at hc ⊢
  have HC := Lib.hid hc
  have hb := (Below.refl w.heap.size w).alloc (Nat.le_refl _) (.cells #[.int .i64 X0, .slice A' n' c'] 50)
  have HB := Lib.hid hb
  clear hc hb
  go_enter Tryz.func66, Tryz.ntmps66
  go_wp2_with fail
  refine (HC.out _ HB.out).mono ?_
  rintro e w2 ⟨rfl, hb2⟩
  go_wp2_with fail
  go_ret
  exact ⟨rfl, HB.out.trans (hb2.mono HB.out.size)⟩
set_option maxHeartbeats 2000000 in
theorem idxLev (l : List (Rd.Lev × Value × Int)) (p : Rd.Lev × Value × Int → Bool) (B g : Nat) (A : Option Addr) (cap : Nat) (w : World) (hv : ∀ x ∈ l, ∃ A n c, x.2.1 = .slice A n c) (hl : Cl w B A (levsC l)) (hB : B ≤ w.heap.size) (hn : l.length ≤ 140737488355328) (hg : w.cell? ⟨g, 0, none⟩ = some (.func (.func 30) #[] #[])) (hgl : g < w.heap.size)
    (hc : ∀ x ∈ l, ∀ w', Below B w w' → w.heap.size ≤ w'.heap.size → Calls Tryz.prog 30 #[.agg #[.int .i64 x.2.2, x.2.1]] w' fun e w'' => e = .returned (.bool (p x)) ∧ Below w'.heap.size w' w'') :
    Calls Tryz.prog 86 #[.slice A l.length cap, .func (.func 66) #[] #[.pointer (some ⟨g, 0, none⟩)]] w fun e w' => (∃ k : Int, e = .returned (.int .i64 k) ∧ IdxTells k (!l.all p)) ∧ Below w.heap.size w w' := by
  have HL := Lib.hid hl
  have HC := Lib.hid hc
  have HN := Lib.hid hn
  obtain ⟨n, hnn⟩ : ∃ n, l.length = n := ⟨_, rfl⟩
  rw [hnn] at hn ⊢
  have HNN := Lib.hid hnn
  clear hl hc hnn
  go_enter Tryz.func86, Tryz.ntmps86
  go_wp2_with fail
  go_loopw [8] (fun i wr => ∃ k : Nat, k ≤ n ∧ i = .int .i64 (k : Int) ∧ (∀ y ∈ l.take k, p y = true) ∧ Below w.heap.size w wr) (fun i _ => n - (intOf i).toNat)
  case atStart => exact ⟨0, by omega, rfl, by simp, Below.refl _ _⟩
  case round =>
    obtain ⟨k, hk, rfl, hyes, hb⟩ := hrel
    have HY := Lib.hid hyes
    have HB := Lib.hid hb
    clear hyes hb
    by_cases hlt : k < n
    · obtain ⟨x, ht⟩ := some_get (l := l) (i := k) (by rw [HNN.out]; exact hlt)
      obtain ⟨b, o, hA, hbl, hcell⟩ := (HL.out.below (HB.out.mono hB)).ex (fun e => by
        have h1 : (levsC l)[k * 2 + 0]? = some (.int .i64 x.2.2) := flat_get levC 2 (fun _ => rfl) l k 0 x _ ht (by omega) rfl
        rw [e] at h1; simp at h1)
      subst hA
      have c0 : wr.cell? ⟨b, o + k * 2, none⟩ = some (.int .i64 x.2.2) := hcell _ _ (flat_get levC 2 (fun _ => rfl) l k 0 x _ ht (by omega) rfl)
      have c1 : wr.cell? ⟨b, o + k * 2 + 1, none⟩ = some (x.2.1) := by rw [Nat.add_assoc]; exact hcell _ _ (flat_get levC 2 (fun _ => rfl) l k 1 x _ ht (by omega) rfl)
      have hg2 : wr.cell? ⟨g, 0, none⟩ = some (.func (.func 30) #[] #[]) := (HB.out.cell (p := ⟨g, 0, none⟩) hgl).trans hg
      have hgl2 : g < wr.heap.size := by have := HB.out.size; omega
      have hki : (k : Int) < (n : Int) := by omega
      have hk0 : (0 : Int) ≤ (k : Int) := by omega
      have hcx : ∀ w', Below wr.heap.size wr w' → Calls Tryz.prog 30 #[.agg #[.int .i64 x.2.2, x.2.1]] w' fun e w'' => e = .returned (.bool (p x)) ∧ Below w'.heap.size w' w'' := fun w' hw' => HC.out x (List.mem_of_getElem? ht) w' ((HB.out.trans (hw'.mono HB.out.size)).mono hB) (Nat.le_trans HB.out.size hw'.size)
      have hvv := hv x (List.mem_of_getElem? ht)
      have hclo := cloLev x (p x) hvv g wr hg2 hgl2 hcx
      obtain ⟨A', n', c', hv'⟩ := hvv
      rw [hv'] at c1 hclo
      have HT := Lib.hid ht
      clear hcell hcx
      cases hq : p x with
      | false =>
        rw [hq] at hclo
        have HCLO := Lib.hid hclo
        have HALL := Lib.hid (show l.all p = false by
          rw [List.all_eq_false]
          exact ⟨x, List.mem_of_getElem? ht, by rw [hq]; decide⟩)
        clear ht hq hclo
        go_wp2_with fail
        refine HCLO.out.mono ?_
        rintro e w2 ⟨rfl, hb2⟩
        go_wp2_with fail
        go_ret
        exact ⟨⟨_, rfl, by unfold IdxTells; rw [if_pos (by rw [HALL.out]; rfl)]; omega⟩, HB.out.trans (hb2.mono HB.out.size)⟩
      | true =>
        rw [hq] at hclo
        have HCLO := Lib.hid hclo
        have HQ := Lib.hid hq
        clear ht hq hclo
        go_wp2_with fail
        refine HCLO.out.mono ?_
        rintro e w2 ⟨rfl, hb2⟩
        go_wp2_with fail
        go_roundw
        case rel => exact ⟨k + 1, by omega, by go_num, all_take HT.out HY.out HQ.out, HB.out.trans (hb2.mono HB.out.size)⟩
        case measure => simp [intOf]; omega
    · obtain rfl : n = k := by omega
      have HALL := Lib.hid (show l.all p = true by
        rw [List.all_eq_true]
        have := HY.out
        rwa [← HNN.out, List.take_length] at this)
      go_wp2_with fail
      go_ret
      exact ⟨⟨_, rfl, by unfold IdxTells; rw [if_neg (by rw [HALL.out]; decide)]⟩, HB.out⟩

theorem conLev (l : List (Rd.Lev × Value × Int)) (p : Rd.Lev × Value × Int → Bool) (B g : Nat) (A : Option Addr) (cap : Nat) (w : World) (hv : ∀ x ∈ l, ∃ A n c, x.2.1 = .slice A n c) (hl : Cl w B A (levsC l)) (hB : B ≤ w.heap.size) (hn : l.length ≤ 140737488355328) (hg : w.cell? ⟨g, 0, none⟩ = some (.func (.func 30) #[] #[])) (hgl : g < w.heap.size)
    (hc : ∀ x ∈ l, ∀ w', Below B w w' → w.heap.size ≤ w'.heap.size → Calls Tryz.prog 30 #[.agg #[.int .i64 x.2.2, x.2.1]] w' fun e w'' => e = .returned (.bool (p x)) ∧ Below w'.heap.size w' w'') :
    Calls Tryz.prog 65 #[.slice A l.length cap, .func (.func 66) #[] #[.pointer (some ⟨g, 0, none⟩)]] w fun e w' => e = .returned (.bool (!l.all p)) ∧ Below w.heap.size w w' := by
  have HI := Lib.hid (idxLev l p B g A cap w hv hl hB hn hg hgl hc)
  clear hl hg hc
  cases hq : l.all p with
  | false =>
    rw [hq] at HI
    clear hq
    go_enter Tryz.func65, Tryz.ntmps65
    go_wp2_with fail
    refine HI.out.mono ?_
    rintro e w1 ⟨⟨k, rfl, hk⟩, hb⟩
    have hk : 0 ≤ k := hk
    go_wp2_with fail
    go_ret
    exact ⟨rfl, hb⟩
  | true =>
    rw [hq] at HI
    clear hq
    go_enter Tryz.func65, Tryz.ntmps65
    go_wp2_with fail
    refine HI.out.mono ?_
    rintro e w1 ⟨⟨k, rfl, hk⟩, hb⟩
    obtain rfl : k = -1 := hk
    go_wp2_with fail
    go_ret
    exact ⟨rfl, hb⟩

theorem allLev (l : List (Rd.Lev × Value × Int)) (p : Rd.Lev × Value × Int → Bool) (B : Nat) (A : Option Addr) (cap : Nat) (w : World) (hv : ∀ x ∈ l, ∃ A n c, x.2.1 = .slice A n c) (hl : Cl w B A (levsC l)) (hB : B ≤ w.heap.size) (hn : l.length ≤ 140737488355328)
    (hc : ∀ x ∈ l, ∀ w', Below B w w' → w.heap.size ≤ w'.heap.size → Calls Tryz.prog 30 #[.agg #[.int .i64 x.2.2, x.2.1]] w' fun e w'' => e = .returned (.bool (p x)) ∧ Below w'.heap.size w' w'') :
    Calls Tryz.prog 29 #[.slice A l.length cap, .func (.func 30) #[] #[]] w fun e w' => e = .returned (.bool (l.all p)) ∧ Below w.heap.size w w' := by
  have hb := (Below.refl w.heap.size w).alloc (Nat.le_refl _) (.cells #[.func (.func 30) #[] #[]] 67)
  have hat := At.new w 67 #[.func (.func 30) #[] #[]]
  have hc0 := hat.cell 0
  simp only [List.getElem?_toArray, List.getElem?_cons_zero] at hc0
  have HI := Lib.hid (conLev l p B w.heap.size A cap _ hv (hl.below (hb.mono hB)) (Nat.le_trans hB hb.size) hn hc0 hat.lt (fun x hx w' hw' hs' => hc x hx w' ((hb.mono hB).trans hw') (Nat.le_trans hb.size hs')))
  have HB := Lib.hid hb
  clear hl hc hb hat hc0
  go_enter Tryz.func29, Tryz.ntmps29
  go_wp2_with fail
  refine HI.out.mono ?_
  rintro e w1 ⟨rfl, hb1⟩
  go_wp2_with fail
  go_ret
  exact ⟨by simp, HB.out.trans (hb1.mono HB.out.size)⟩

/-! ## Rule -/
theorem cloRule (x : Rd.Rule × Value) (b : Bool) (hv : ∃ A n c, x.2 = .slice A n c) (g : Nat) (w : World) (hg : w.cell? ⟨g, 0, none⟩ = some (.func (.func 32) #[] #[])) (hgl : g < w.heap.size)
    (hc : ∀ w', Below w.heap.size w w' → Calls Tryz.prog 32 #[.agg #[.string (str x.1.left), x.2, .string (str x.1.prec), .string (str x.1.action)]] w' fun e w'' => e = .returned (.bool b) ∧ Below w'.heap.size w' w'') :
    Calls Tryz.prog 69 #[.agg #[.string (str x.1.left), x.2, .string (str x.1.prec), .string (str x.1.action)], .pointer (some ⟨g, 0, none⟩)] w fun e w' => e = .returned (.bool !b) ∧ Below w.heap.size w w' := by
  obtain ⟨A', n', c', hv⟩ := hv
  rw [hv] at hc ⊢
  clear hv
  generalize str x.1.left = X0 at hc ⊢
  generalize str x.1.prec = X2 at hc ⊢
  generalize str x.1.action = X3 at hc ⊢
  have HC := Lib.hid hc
  have hb := (Below.refl w.heap.size w).alloc (Nat.le_refl _) (.cells #[.string X0, .slice A' n' c', .string X2, .string X3] 36)
  have HB := Lib.hid hb
  clear hc hb
  go_enter Tryz.func69, Tryz.ntmps69
  go_wp2_with fail
  refine (HC.out _ HB.out).mono ?_
  rintro e w2 ⟨rfl, hb2⟩
  go_wp2_with fail
  go_ret
  exact ⟨rfl, HB.out.trans (hb2.mono HB.out.size)⟩
set_option maxHeartbeats 2000000 in
theorem idxRule (l : List (Rd.Rule × Value)) (p : Rd.Rule × Value → Bool) (B g : Nat) (A : Option Addr) (cap : Nat) (w : World) (hv : ∀ x ∈ l, ∃ A n c, x.2 = .slice A n c) (hl : Cl w B A (rulesV l)) (hB : B ≤ w.heap.size) (hn : l.length ≤ 140737488355328) (hg : w.cell? ⟨g, 0, none⟩ = some (.func (.func 32) #[] #[])) (hgl : g < w.heap.size)
    (hc : ∀ x ∈ l, ∀ w', Below B w w' → w.heap.size ≤ w'.heap.size → Calls Tryz.prog 32 #[.agg #[.string (str x.1.left), x.2, .string (str x.1.prec), .string (str x.1.action)]] w' fun e w'' => e = .returned (.bool (p x)) ∧ Below w'.heap.size w' w'') :
    Calls Tryz.prog 89 #[.slice A l.length cap, .func (.func 69) #[] #[.pointer (some ⟨g, 0, none⟩)]] w fun e w' => (∃ k : Int, e = .returned (.int .i64 k) ∧ IdxTells k (!l.all p)) ∧ Below w.heap.size w w' := by
  have HL := Lib.hid hl
  have HC := Lib.hid hc
  have HN := Lib.hid hn
  obtain ⟨n, hnn⟩ : ∃ n, l.length = n := ⟨_, rfl⟩
  rw [hnn] at hn ⊢
  have HNN := Lib.hid hnn
  clear hl hc hnn
  go_enter Tryz.func89, Tryz.ntmps89
  go_wp2_with fail
  go_loopw [8] (fun i wr => ∃ k : Nat, k ≤ n ∧ i = .int .i64 (k : Int) ∧ (∀ y ∈ l.take k, p y = true) ∧ Below w.heap.size w wr) (fun i _ => n - (intOf i).toNat)
  case atStart => exact ⟨0, by omega, rfl, by simp, Below.refl _ _⟩
  case round =>
    obtain ⟨k, hk, rfl, hyes, hb⟩ := hrel
    have HY := Lib.hid hyes
    have HB := Lib.hid hb
    clear hyes hb
    by_cases hlt : k < n
    · obtain ⟨x, ht⟩ := some_get (l := l) (i := k) (by rw [HNN.out]; exact hlt)
      obtain ⟨b, o, hA, hbl, hcell⟩ := (HL.out.below (HB.out.mono hB)).ex (fun e => by
        have h1 : (rulesV l)[k * 4 + 0]? = some (.string (str x.1.left)) := flat_get ruleCells 4 (fun _ => rfl) l k 0 x _ ht (by omega) rfl
        rw [e] at h1; simp at h1)
      subst hA
      have c0 : wr.cell? ⟨b, o + k * 4, none⟩ = some (.string (str x.1.left)) := hcell _ _ (flat_get ruleCells 4 (fun _ => rfl) l k 0 x _ ht (by omega) rfl)
      have c1 : wr.cell? ⟨b, o + k * 4 + 1, none⟩ = some (x.2) := by rw [Nat.add_assoc]; exact hcell _ _ (flat_get ruleCells 4 (fun _ => rfl) l k 1 x _ ht (by omega) rfl)
      have c2 : wr.cell? ⟨b, o + k * 4 + 2, none⟩ = some (.string (str x.1.prec)) := by rw [Nat.add_assoc]; exact hcell _ _ (flat_get ruleCells 4 (fun _ => rfl) l k 2 x _ ht (by omega) rfl)
      have c3 : wr.cell? ⟨b, o + k * 4 + 3, none⟩ = some (.string (str x.1.action)) := by rw [Nat.add_assoc]; exact hcell _ _ (flat_get ruleCells 4 (fun _ => rfl) l k 3 x _ ht (by omega) rfl)
      have hg2 : wr.cell? ⟨g, 0, none⟩ = some (.func (.func 32) #[] #[]) := (HB.out.cell (p := ⟨g, 0, none⟩) hgl).trans hg
      have hgl2 : g < wr.heap.size := by have := HB.out.size; omega
      have hki : (k : Int) < (n : Int) := by omega
      have hk0 : (0 : Int) ≤ (k : Int) := by omega
      have hcx : ∀ w', Below wr.heap.size wr w' → Calls Tryz.prog 32 #[.agg #[.string (str x.1.left), x.2, .string (str x.1.prec), .string (str x.1.action)]] w' fun e w'' => e = .returned (.bool (p x)) ∧ Below w'.heap.size w' w'' := fun w' hw' => HC.out x (List.mem_of_getElem? ht) w' ((HB.out.trans (hw'.mono HB.out.size)).mono hB) (Nat.le_trans HB.out.size hw'.size)
      have hvv := hv x (List.mem_of_getElem? ht)
      have hclo := cloRule x (p x) hvv g wr hg2 hgl2 hcx
      obtain ⟨A', n', c', hv'⟩ := hvv
      rw [hv'] at c1 hclo
      have HT := Lib.hid ht
      clear hcell hcx
      cases hq : p x with
      | false =>
        rw [hq] at hclo
        have HCLO := Lib.hid hclo
        have HALL := Lib.hid (show l.all p = false by
          rw [List.all_eq_false]
          exact ⟨x, List.mem_of_getElem? ht, by rw [hq]; decide⟩)
        clear ht hq hclo
        go_wp2_with fail
        refine HCLO.out.mono ?_
        rintro e w2 ⟨rfl, hb2⟩
        go_wp2_with fail
        go_ret
        exact ⟨⟨_, rfl, by unfold IdxTells; rw [if_pos (by rw [HALL.out]; rfl)]; omega⟩, HB.out.trans (hb2.mono HB.out.size)⟩
      | true =>
        rw [hq] at hclo
        have HCLO := Lib.hid hclo
        have HQ := Lib.hid hq
        clear ht hq hclo
        go_wp2_with fail
        refine HCLO.out.mono ?_
        rintro e w2 ⟨rfl, hb2⟩
        go_wp2_with fail
        go_roundw
        case rel => exact ⟨k + 1, by omega, by go_num, all_take HT.out HY.out HQ.out, HB.out.trans (hb2.mono HB.out.size)⟩
        case measure => simp [intOf]; omega
    · obtain rfl : n = k := by omega
      have HALL := Lib.hid (show l.all p = true by
        rw [List.all_eq_true]
        have := HY.out
        rwa [← HNN.out, List.take_length] at this)
      go_wp2_with fail
      go_ret
      exact ⟨⟨_, rfl, by unfold IdxTells; rw [if_neg (by rw [HALL.out]; decide)]⟩, HB.out⟩

theorem conRule (l : List (Rd.Rule × Value)) (p : Rd.Rule × Value → Bool) (B g : Nat) (A : Option Addr) (cap : Nat) (w : World) (hv : ∀ x ∈ l, ∃ A n c, x.2 = .slice A n c) (hl : Cl w B A (rulesV l)) (hB : B ≤ w.heap.size) (hn : l.length ≤ 140737488355328) (hg : w.cell? ⟨g, 0, none⟩ = some (.func (.func 32) #[] #[])) (hgl : g < w.heap.size)
    (hc : ∀ x ∈ l, ∀ w', Below B w w' → w.heap.size ≤ w'.heap.size → Calls Tryz.prog 32 #[.agg #[.string (str x.1.left), x.2, .string (str x.1.prec), .string (str x.1.action)]] w' fun e w'' => e = .returned (.bool (p x)) ∧ Below w'.heap.size w' w'') :
    Calls Tryz.prog 68 #[.slice A l.length cap, .func (.func 69) #[] #[.pointer (some ⟨g, 0, none⟩)]] w fun e w' => e = .returned (.bool (!l.all p)) ∧ Below w.heap.size w w' := by
  have HI := Lib.hid (idxRule l p B g A cap w hv hl hB hn hg hgl hc)
  clear hl hg hc
  cases hq : l.all p with
  | false =>
    rw [hq] at HI
    clear hq
    go_enter Tryz.func68, Tryz.ntmps68
    go_wp2_with fail
    refine HI.out.mono ?_
    rintro e w1 ⟨⟨k, rfl, hk⟩, hb⟩
    have hk : 0 ≤ k := hk
    go_wp2_with fail
    go_ret
    exact ⟨rfl, hb⟩
  | true =>
    rw [hq] at HI
    clear hq
    go_enter Tryz.func68, Tryz.ntmps68
    go_wp2_with fail
    refine HI.out.mono ?_
    rintro e w1 ⟨⟨k, rfl, hk⟩, hb⟩
    obtain rfl : k = -1 := hk
    go_wp2_with fail
    go_ret
    exact ⟨rfl, hb⟩

theorem allRule (l : List (Rd.Rule × Value)) (p : Rd.Rule × Value → Bool) (B : Nat) (A : Option Addr) (cap : Nat) (w : World) (hv : ∀ x ∈ l, ∃ A n c, x.2 = .slice A n c) (hl : Cl w B A (rulesV l)) (hB : B ≤ w.heap.size) (hn : l.length ≤ 140737488355328)
    (hc : ∀ x ∈ l, ∀ w', Below B w w' → w.heap.size ≤ w'.heap.size → Calls Tryz.prog 32 #[.agg #[.string (str x.1.left), x.2, .string (str x.1.prec), .string (str x.1.action)]] w' fun e w'' => e = .returned (.bool (p x)) ∧ Below w'.heap.size w' w'') :
    Calls Tryz.prog 31 #[.slice A l.length cap, .func (.func 32) #[] #[]] w fun e w' => e = .returned (.bool (l.all p)) ∧ Below w.heap.size w w' := by
  have hb := (Below.refl w.heap.size w).alloc (Nat.le_refl _) (.cells #[.func (.func 32) #[] #[]] 69)
  have hat := At.new w 69 #[.func (.func 32) #[] #[]]
  have hc0 := hat.cell 0
  simp only [List.getElem?_toArray, List.getElem?_cons_zero] at hc0
  have HI := Lib.hid (conRule l p B w.heap.size A cap _ hv (hl.below (hb.mono hB)) (Nat.le_trans hB hb.size) hn hc0 hat.lt (fun x hx w' hw' hs' => hc x hx w' ((hb.mono hB).trans hw') (Nat.le_trans hb.size hs')))
  have HB := Lib.hid hb
  clear hl hc hb hat hc0
  go_enter Tryz.func31, Tryz.ntmps31
  go_wp2_with fail
  refine HI.out.mono ?_
  rintro e w1 ⟨rfl, hb1⟩
  go_wp2_with fail
  go_ret
  exact ⟨by simp, HB.out.trans (hb1.mono HB.out.size)⟩

/-! ## Str -/
theorem cloStr (x : Rd.Name) (b : Bool) (g : Nat) (w : World) (hg : w.cell? ⟨g, 0, none⟩ = some (.func (.func 24) #[] #[])) (hgl : g < w.heap.size)
    (hc : ∀ w', Below w.heap.size w w' → Calls Tryz.prog 24 #[.string (str x)] w' fun e w'' => e = .returned (.bool b) ∧ Below w'.heap.size w' w'') :
    Calls Tryz.prog 88 #[.string (str x), .pointer (some ⟨g, 0, none⟩)] w fun e w' => e = .returned (.bool !b) ∧ Below w.heap.size w w' := by
  generalize str x = X0 at hc ⊢
  have HC := Lib.hid hc
  have HB := Lib.hid ((Below.refl w.heap.size w).alloc (Nat.le_refl _) (.cells #[.string X0] 9))
  clear hc
  go_enter Tryz.func88, Tryz.ntmps88
  go_wp2_with fail
  first
    | (refine (HC.out _ HB.out).mono ?_
       rintro e w2 ⟨rfl, hb2⟩
       go_wp2_with fail
       go_ret
       exact ⟨rfl, HB.out.trans (hb2.mono HB.out.size)⟩)
    | (refine (HC.out _ (Below.refl _ _)).mono ?_
       rintro e w2 ⟨rfl, hb2⟩
       go_wp2_with fail
       go_ret
       exact ⟨rfl, hb2⟩)
set_option maxHeartbeats 2000000 in
theorem idxStr (l : List (Rd.Name)) (p : Rd.Name → Bool) (B g : Nat) (A : Option Addr) (cap : Nat) (w : World) (hl : Cl w B A (namesV l)) (hB : B ≤ w.heap.size) (hn : l.length ≤ 140737488355328) (hg : w.cell? ⟨g, 0, none⟩ = some (.func (.func 24) #[] #[])) (hgl : g < w.heap.size)
    (hc : ∀ x ∈ l, ∀ w', Below B w w' → w.heap.size ≤ w'.heap.size → Calls Tryz.prog 24 #[.string (str x)] w' fun e w'' => e = .returned (.bool (p x)) ∧ Below w'.heap.size w' w'') :
    Calls Tryz.prog 108 #[.slice A l.length cap, .func (.func 88) #[] #[.pointer (some ⟨g, 0, none⟩)]] w fun e w' => (∃ k : Int, e = .returned (.int .i64 k) ∧ IdxTells k (!l.all p)) ∧ Below w.heap.size w w' := by
  have HL := Lib.hid hl
  have HC := Lib.hid hc
  have HN := Lib.hid hn
  obtain ⟨n, hnn⟩ : ∃ n, l.length = n := ⟨_, rfl⟩
  rw [hnn] at hn ⊢
  have HNN := Lib.hid hnn
  clear hl hc hnn
  go_enter Tryz.func108, Tryz.ntmps108
  go_wp2_with fail
  go_loopw [8] (fun i wr => ∃ k : Nat, k ≤ n ∧ i = .int .i64 (k : Int) ∧ (∀ y ∈ l.take k, p y = true) ∧ Below w.heap.size w wr) (fun i _ => n - (intOf i).toNat)
  case atStart => exact ⟨0, by omega, rfl, by simp, Below.refl _ _⟩
  case round =>
    obtain ⟨k, hk, rfl, hyes, hb⟩ := hrel
    have HY := Lib.hid hyes
    have HB := Lib.hid hb
    clear hyes hb
    by_cases hlt : k < n
    · obtain ⟨x, ht⟩ := some_get (l := l) (i := k) (by rw [HNN.out]; exact hlt)
      obtain ⟨b, o, hA, hbl, hcell⟩ := (HL.out.below (HB.out.mono hB)).ex (fun e => by
        have h1 := namesV_get ht
        rw [e] at h1; simp at h1)
      subst hA
      have c0 : wr.cell? ⟨b, o + k, none⟩ = some (.string (str x)) := hcell _ _ (namesV_get ht)
      have hg2 : wr.cell? ⟨g, 0, none⟩ = some (.func (.func 24) #[] #[]) := (HB.out.cell (p := ⟨g, 0, none⟩) hgl).trans hg
      have hgl2 : g < wr.heap.size := by have := HB.out.size; omega
      have hki : (k : Int) < (n : Int) := by omega
      have hk0 : (0 : Int) ≤ (k : Int) := by omega
      have hcx : ∀ w', Below wr.heap.size wr w' → Calls Tryz.prog 24 #[.string (str x)] w' fun e w'' => e = .returned (.bool (p x)) ∧ Below w'.heap.size w' w'' := fun w' hw' => HC.out x (List.mem_of_getElem? ht) w' ((HB.out.trans (hw'.mono HB.out.size)).mono hB) (Nat.le_trans HB.out.size hw'.size)
      have hclo := cloStr x (p x) g wr hg2 hgl2 hcx
      have HT := Lib.hid ht
      clear hcell hcx
      cases hq : p x with
      | false =>
        rw [hq] at hclo
        have HCLO := Lib.hid hclo
        have HALL := Lib.hid (show l.all p = false by
          rw [List.all_eq_false]
          exact ⟨x, List.mem_of_getElem? ht, by rw [hq]; decide⟩)
        clear ht hq hclo
        go_wp2_with fail
        refine HCLO.out.mono ?_
        rintro e w2 ⟨rfl, hb2⟩
        go_wp2_with fail
        go_ret
        exact ⟨⟨_, rfl, by unfold IdxTells; rw [if_pos (by rw [HALL.out]; rfl)]; omega⟩, HB.out.trans (hb2.mono HB.out.size)⟩
      | true =>
        rw [hq] at hclo
        have HCLO := Lib.hid hclo
        have HQ := Lib.hid hq
        clear ht hq hclo
        go_wp2_with fail
        refine HCLO.out.mono ?_
        rintro e w2 ⟨rfl, hb2⟩
        go_wp2_with fail
        go_roundw
        case rel => exact ⟨k + 1, by omega, by go_num, all_take HT.out HY.out HQ.out, HB.out.trans (hb2.mono HB.out.size)⟩
        case measure => simp [intOf]; omega
    · obtain rfl : n = k := by omega
      have HALL := Lib.hid (show l.all p = true by
        rw [List.all_eq_true]
        have := HY.out
        rwa [← HNN.out, List.take_length] at this)
      go_wp2_with fail
      go_ret
      exact ⟨⟨_, rfl, by unfold IdxTells; rw [if_neg (by rw [HALL.out]; decide)]⟩, HB.out⟩

theorem conStr (l : List (Rd.Name)) (p : Rd.Name → Bool) (B g : Nat) (A : Option Addr) (cap : Nat) (w : World) (hl : Cl w B A (namesV l)) (hB : B ≤ w.heap.size) (hn : l.length ≤ 140737488355328) (hg : w.cell? ⟨g, 0, none⟩ = some (.func (.func 24) #[] #[])) (hgl : g < w.heap.size)
    (hc : ∀ x ∈ l, ∀ w', Below B w w' → w.heap.size ≤ w'.heap.size → Calls Tryz.prog 24 #[.string (str x)] w' fun e w'' => e = .returned (.bool (p x)) ∧ Below w'.heap.size w' w'') :
    Calls Tryz.prog 87 #[.slice A l.length cap, .func (.func 88) #[] #[.pointer (some ⟨g, 0, none⟩)]] w fun e w' => e = .returned (.bool (!l.all p)) ∧ Below w.heap.size w w' := by
  have HI := Lib.hid (idxStr l p B g A cap w hl hB hn hg hgl hc)
  clear hl hg hc
  cases hq : l.all p with
  | false =>
    rw [hq] at HI
    clear hq
    go_enter Tryz.func87, Tryz.ntmps87
    go_wp2_with fail
    refine HI.out.mono ?_
    rintro e w1 ⟨⟨k, rfl, hk⟩, hb⟩
    have hk : 0 ≤ k := hk
    go_wp2_with fail
    go_ret
    exact ⟨rfl, hb⟩
  | true =>
    rw [hq] at HI
    clear hq
    go_enter Tryz.func87, Tryz.ntmps87
    go_wp2_with fail
    refine HI.out.mono ?_
    rintro e w1 ⟨⟨k, rfl, hk⟩, hb⟩
    obtain rfl : k = -1 := hk
    go_wp2_with fail
    go_ret
    exact ⟨rfl, hb⟩

theorem allStr (l : List (Rd.Name)) (p : Rd.Name → Bool) (B : Nat) (A : Option Addr) (cap : Nat) (w : World) (hl : Cl w B A (namesV l)) (hB : B ≤ w.heap.size) (hn : l.length ≤ 140737488355328)
    (hc : ∀ x ∈ l, ∀ w', Below B w w' → w.heap.size ≤ w'.heap.size → Calls Tryz.prog 24 #[.string (str x)] w' fun e w'' => e = .returned (.bool (p x)) ∧ Below w'.heap.size w' w'') :
    Calls Tryz.prog 67 #[.slice A l.length cap, .func (.func 24) #[] #[]] w fun e w' => e = .returned (.bool (l.all p)) ∧ Below w.heap.size w w' := by
  have hb := (Below.refl w.heap.size w).alloc (Nat.le_refl _) (.cells #[.func (.func 24) #[] #[]] 61)
  have hat := At.new w 61 #[.func (.func 24) #[] #[]]
  have hc0 := hat.cell 0
  simp only [List.getElem?_toArray, List.getElem?_cons_zero] at hc0
  have HI := Lib.hid (conStr l p B w.heap.size A cap _ (hl.below (hb.mono hB)) (Nat.le_trans hB hb.size) hn hc0 hat.lt (fun x hx w' hw' hs' => hc x hx w' ((hb.mono hB).trans hw') (Nat.le_trans hb.size hs')))
  have HB := Lib.hid hb
  clear hl hc hb hat hc0
  go_enter Tryz.func67, Tryz.ntmps67
  go_wp2_with fail
  refine HI.out.mono ?_
  rintro e w1 ⟨rfl, hb1⟩
  go_wp2_with fail
  go_ret
  exact ⟨by simp, HB.out.trans (hb1.mono HB.out.size)⟩

end Go.Proofs.YtpgmapjjjpcmfaaGreatDoor
