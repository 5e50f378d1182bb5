import Derived.Test.YtpgmapjjjpcmfaaGreatDoorNrB
import Derived.Test.YtpgmapjjjpcmfaaGreatDoorPrAA
import Derived.BigQuiet
import Derived.Deep.QuietTactic
namespace Go.Proofs.YtpgmapjjjpcmfaaGreatDoor
open Go.RowKit
open Lx
set_option linter.unusedVariables false
set_option linter.unusedSimpArgs false
set_option maxRecDepth 100000
theorem str_app7 (a b : List UInt8) : str (a ++ b) = str a ++ str b := by
 rw [← str_bl (str a ++ str b), bl_append, bl_str, bl_str]
theorem take_snoc7 (s : ByteArray) (k : Nat) (h : k < s.size) : (bl s).take (k + 1) = (bl s).take k ++ [s[k]] := by
 have hd := bl_drop s k h
 have h2 : (bl s)[k]? = some s[k] := by
  have h3 : ((bl s).drop k)[0]? = some s[k] := by rw [hd]; rfl
  rw [List.getElem?_drop] at h3
  simpa using h3
 rw [List.take_add_one, h2]; rfl
theorem ext_one7 (s : ByteArray) (k : Nat) (h : k < s.size) : s.extract k (k + 1) = str [s[k]] := by
 rw [ext_str, bl_drop s k h, show k + 1 - k = 1 by omega]; rfl
theorem resc7_any (s : ByteArray) (q : Bool) (w : World) (hs : s.size ≤ 100000) :
  Calls Tryz.prog 40 #[.string s, .bool q] w fun e w' => e = .returned (.string (str (Pr.esc (if q = true then Pr.inSet else Pr.inText) (bl s)))) ∧ w = w' := by
 obtain ⟨Q, hQ⟩ : ∃ Q, (if q = true then Pr.inSet else Pr.inText) = Q := ⟨_, rfl⟩
 rw [hQ]
 have HQ := Lib.hid hQ
 clear hQ
 go_enter Tryz.func40, Tryz.ntmps40
 go_wp2_with fail
 go_loop [5, 6, 7] (fun v i _ => ∃ (k : Nat) (S : ByteArray), k ≤ s.size ∧ i = .int .i64 (k : Int) ∧ v = .string S ∧ S = str (Pr.esc Q ((bl s).take k))) (fun _ i _ => s.size - (intOf i).toNat)
 case atStart => exact ⟨0, _, by omega, rfl, rfl, rfl⟩
 case round =>
  obtain ⟨k, S, hk, rfl, rfl, hS⟩ := hrel
  have HS := Lib.hid hS
  have hz : S.size ≤ 200000 := by
   rw [hS, ← bl_length, bl_str]
   have h1 := Pr.esc_len Q ((bl s).take k)
   have h2 : ((bl s).take k).length ≤ k := by rw [List.length_take]; exact Nat.min_le_left _ _
   omega
  clear hS
  by_cases hlt : k < s.size
  ·have HNX := Lib.hid (fun (t : List UInt8) (ht : Pr.esc Q [s[k]] = t) => show S ++ str t = str (Pr.esc Q ((bl s).take (k + 1))) by rw [take_snoc7 s k hlt, Pr.esc_append, ht, str_app7, ← HS.out])
   have HE := Lib.hid (ext_one7 s k hlt)
   have hki : (k : Int) < (s.size : Int) := by omega
   have hk0 : (0 : Int) ≤ (k : Int) := by omega
   have n2 : ¬ 9223372036854775807 < S.size + 2 := by omega
   have n1 : ¬ 9223372036854775807 < S.size + 1 := by omega
   have n3 : ¬ 9223372036854775807 < S.size + 1 + 1 := by omega
   generalize hc : s[k] = c at HNX HE
   by_cases e1 : c = 10
   ·have HX := Lib.hid (HNX.out [92, 110] (by rw [Pr.esc, if_pos e1]; rfl))
    have c1 : ((s[k].toNat : Int) == 10) = true := by rw [hc, e1]; rfl
    clear hc e1 HNX
    go_wp2_with fail
    go_round
    case rel => exact ⟨k + 1, _, by omega, by go_num, rfl, HX.out⟩
    case measure => simp [intOf]; omega
   ·have hne : ∀ (v : UInt8), c ≠ v → ((s[k].toNat : Int) == (v.toNat : Int)) = false := fun v hv => by
     rw [hc, beq_eq_false_iff_ne]
     intro h
     exact hv (UInt8.toNat.inj (by omega))
    have c1 : ((s[k].toNat : Int) == 10) = false := hne 10 e1
    by_cases e2 : c = 9
    ·have HX := Lib.hid (HNX.out [92, 116] (by rw [Pr.esc, if_neg e1, if_pos e2]; rfl))
     have c2 : ((s[k].toNat : Int) == 9) = true := by rw [hc, e2]; rfl
     clear hc e1 e2 HNX hne
     go_wp2_with fail
     go_round
     case rel => exact ⟨k + 1, _, by omega, by go_num, rfl, HX.out⟩
     case measure => simp [intOf]; omega
    ·have c2 : ((s[k].toNat : Int) == 9) = false := hne 9 e2
     obtain ⟨E, hE⟩ : ∃ E, s.extract k (k + 1) = E := ⟨_, rfl⟩
     have hE1 : E.size = 1 := by rw [← hE, HE.out, ← bl_length, bl_str]; rfl
     have n4 : ¬ 9223372036854775807 < S.size + E.size := by omega
     have n5 : ¬ 9223372036854775807 < S.size + 1 + E.size := by omega
     have HEE := Lib.hid (show E = str [c] by rw [← hE, HE.out])
     have HY := Lib.hid (fun h : Q c = true => show (S ++ ⟨#[92]⟩) ++ E = str (Pr.esc Q ((bl s).take (k + 1))) by
      rw [← HNX.out [92, c] (by rw [Pr.esc, if_neg e1, if_neg e2, if_pos h]; rfl), HEE.out, show ([92, c] : List UInt8) = [92] ++ [c] from rfl, str_app7, ByteArray.append_assoc]; rfl)
     have HN := Lib.hid (fun h : Q c = false => show S ++ E = str (Pr.esc Q ((bl s).take (k + 1))) by
      rw [← HNX.out [c] (by rw [Pr.esc, if_neg e1, if_neg e2, if_neg (by rw [h]; decide)]; rfl), HEE.out])
     clear HNX HE HEE
     by_cases e3 : c = 92
     ·have HX := Lib.hid (HY.out (by rw [← HQ.out, e3]; cases q <;> rfl))
      have c3 : ((s[k].toNat : Int) == 92) = true := by rw [hc, e3]; rfl
      clear hc e1 e2 e3 hne HY HN
      go_wp2_with fail
      go_round
      case rel => exact ⟨k + 1, _, by omega, by go_num, rfl, HX.out⟩
      case measure => simp [intOf]; omega
     ·have c3 : ((s[k].toNat : Int) == 92) = false := hne 92 e3
      cases q with
      | false =>
       by_cases e4 : c = 34
       ·have c4 : ((s[k].toNat : Int) == 34) = true := by rw [hc, e4]; rfl
        have HX := Lib.hid (HY.out (by rw [← HQ.out, e4]; rfl))
        clear hc hne HY HN
        go_wp2_with fail
        go_round
        case rel => exact ⟨k + 1, _, by omega, by go_num, rfl, HX.out⟩
        case measure => simp [intOf]; omega
       ·have c4 : ((s[k].toNat : Int) == 34) = false := hne 34 e4
        have HX := Lib.hid (HN.out (by rw [← HQ.out]; simp [Pr.inText, e3, e4]))
        clear hc hne HY HN
        go_wp2_with fail
        all_goals go_round
        all_goals first | exact ⟨k + 1, _, by omega, by go_num, rfl, HX.out⟩ | (simp [intOf]; omega)
      | true =>
       by_cases e4 : c = 93
       ·have c4 : ((s[k].toNat : Int) == 93) = true := by rw [hc, e4]; rfl
        have c6 : ((s[k].toNat : Int) == 34) = false := by rw [hc, e4]; rfl
        have HX := Lib.hid (HY.out (by rw [← HQ.out, e4]; rfl))
        clear hc hne HY HN
        go_wp2_with fail
        go_round
        case rel => exact ⟨k + 1, _, by omega, by go_num, rfl, HX.out⟩
        case measure => simp [intOf]; omega
       ·have c4 : ((s[k].toNat : Int) == 93) = false := hne 93 e4
        by_cases e5 : c = 45
        ·have c5 : ((s[k].toNat : Int) == 45) = true := by rw [hc, e5]; rfl
         have c6 : ((s[k].toNat : Int) == 34) = false := by rw [hc, e5]; rfl
         have HX := Lib.hid (HY.out (by rw [← HQ.out, e5]; rfl))
         clear hc hne HY HN
         go_wp2_with fail
         go_round
         case rel => exact ⟨k + 1, _, by omega, by go_num, rfl, HX.out⟩
         case measure => simp [intOf]; omega
        ·have c5 : ((s[k].toNat : Int) == 45) = false := hne 45 e5
         have HX := Lib.hid (HN.out (by rw [← HQ.out]; simp [Pr.inSet, e3, e4, e5]))
         clear hc hne HY HN
         go_wp2_with fail
         all_goals go_round
         all_goals first | exact ⟨k + 1, _, by omega, by go_num, rfl, HX.out⟩ | (simp [intOf]; omega)
  ·obtain rfl : s.size = k := by omega
   have HF := Lib.hid (show str (Pr.esc Q (bl s)) = S by rw [HS.out, ← bl_length, List.take_length])
   go_wp2_with fail
   go_ret
   exact ⟨by rw [HF.out]; rfl, rfl⟩
theorem app_nil7 (a : ByteArray) : a ++ ⟨#[]⟩ = a := by
 have h := str_app7 (bl a) []
 rw [List.append_nil, str_bl] at h
 exact h.symm
theorem bl_len7 {t : List UInt8} {T : ByteArray} (h : str t = T) : T.size = t.length := by rw [← h, ← bl_length, bl_str]
theorem str_emp7 {t : List UInt8} {T : ByteArray} (h : str t = T) : T.toList.isEmpty = decide (t = []) := by
 rw [← h, toList_eq, bl_str]
 cases t <;> simp
theorem rpattern7_any (p : Rd.Pat) (w : World) (h1 : p.text.length ≤ 100000) (h2 : p.set.length ≤ 100000) :
  Calls Tryz.prog 13 #[patV p] w fun e w' => e = .returned (.string (str (Pr.pattern p))) ∧ Below w.heap.size w w' := by
 obtain ⟨t, st, m⟩ := p
 simp only [] at h1 h2
 unfold patV
 simp only []
 obtain ⟨T, hT⟩ : ∃ T, str t = T := ⟨_, rfl⟩
 obtain ⟨S, hS⟩ : ∃ S, str st = S := ⟨_, rfl⟩
 have hTs : T.size ≤ 100000 := by rw [bl_len7 hT]; exact h1
 have hSs : S.size ≤ 100000 := by rw [bl_len7 hS]; exact h2
 have hTe := str_emp7 hT
 have KT := Lib.hid (fun (w' : World) => resc7_any T false w' hTs)
 have KS := Lib.hid (fun (w' : World) => resc7_any S true w' hSs)
 have hz1 : (str (Pr.esc Pr.inText (bl T))).size ≤ 200000 := by
  rw [← bl_length, bl_str]
  have := Pr.esc_len Pr.inText (bl T)
  rw [bl_length] at this
  omega
 have hz2 : (str (Pr.esc Pr.inSet (bl S))).size ≤ 200000 := by
  rw [← bl_length, bl_str]
  have := Pr.esc_len Pr.inSet (bl S)
  rw [bl_length] at this
  omega
 rw [show (if false = true then Pr.inSet else Pr.inText) = Pr.inText from rfl] at KT
 rw [show (if true = true then Pr.inSet else Pr.inText) = Pr.inSet from rfl] at KS
 have HP := Lib.hid (show str (Pr.pattern ⟨t, st, m⟩) = if t = [] then (⟨#[91]⟩ ++ str (Pr.esc Pr.inSet (bl S)) ++ ⟨#[93]⟩) ++ (if m = true then ⟨#[43]⟩ else ⟨#[]⟩) else ⟨#[34]⟩ ++ str (Pr.esc Pr.inText (bl T)) ++ ⟨#[34]⟩ by
  unfold Pr.pattern
  rw [← hS, ← hT, bl_str, bl_str]
  by_cases ht : t = []
  ·rw [if_pos ht, if_pos ht]
   rw [show (91 : UInt8) :: (Pr.esc Pr.inSet st ++ (93 :: if m = true then [43] else [])) = (([91] ++ Pr.esc Pr.inSet st) ++ [93]) ++ (if m = true then [43] else []) by simp, str_app7, str_app7, str_app7]
   cases m <;> rfl
  ·rw [if_neg ht, if_neg ht]
   rw [show (34 : UInt8) :: (Pr.esc Pr.inText t ++ [34]) = ([34] ++ Pr.esc Pr.inText t) ++ [34] by simp, str_app7, str_app7]
   rfl)
 rw [HP.out, hT, hS]
 clear hT hS HP h1 h2
 obtain ⟨X, hX⟩ : ∃ X, str (Pr.esc Pr.inText (bl T)) = X := ⟨_, rfl⟩
 obtain ⟨Y, hY⟩ : ∃ Y, str (Pr.esc Pr.inSet (bl S)) = Y := ⟨_, rfl⟩
 rw [hX] at KT hz1 ⊢
 rw [hY] at KS hz2 ⊢
 have HB := Lib.hid ((Below.refl w.heap.size w).alloc (Nat.le_refl _) (.cells #[.string T, .string S, .bool m] 39))
 clear hX hY
 have n1 : ¬ 9223372036854775807 < 1 + X.size := by omega
 have n2 : ¬ 9223372036854775807 < 1 + X.size + 1 := by omega
 have n3 : ¬ 9223372036854775807 < 1 + Y.size := by omega
 have n4 : ¬ 9223372036854775807 < 1 + Y.size + 1 := by omega
 have n5 : ¬ 9223372036854775807 < 1 + Y.size + 1 + 1 := by omega
 go_enter Tryz.func13, Tryz.ntmps13
 by_cases ht : t = []
 ·rw [if_pos ht]
  rw [decide_eq_true ht] at hTe
  clear ht
  go_wp2_with fail
  refine (KS.out _).mono ?_
  rintro e w2 ⟨rfl, rfl⟩
  cases m with
  | true =>
   go_wp2_with fail
   go_ret
   exact ⟨rfl, HB.out⟩
  | false =>
   go_wp2_with fail
   go_ret
   exact ⟨by rw [app_nil7]; rfl, HB.out⟩
 ·rw [if_neg ht]
  rw [decide_eq_false ht] at hTe
  clear ht
  go_wp2_with fail
  refine (KT.out _).mono ?_
  rintro e w2 ⟨rfl, rfl⟩
  go_wp2_with fail
  go_ret
  exact ⟨rfl, HB.out⟩
theorem row_len7 : ∀ l : List Rd.Name, (∀ y ∈ l, y.length ≤ 100000) → (Pr.rowT l).length ≤ l.length * 100001
 | [], _ => by simp [Pr.rowT]
 | y :: t, h => by
  have h1 := row_len7 t (fun z hz => h z (List.mem_cons_of_mem _ hz))
  have h2 := h y List.mem_cons_self
  unfold Pr.rowT at *
  simp only [List.flatMap_cons, List.length_append, List.length_cons]; omega
theorem row_snoc7 {l : List Rd.Name} {q : Nat} {y : Rd.Name} (h : l[q]? = some y) : Pr.rowT (l.take (q + 1)) = Pr.rowT (l.take q) ++ ([32] ++ y) := by
 rw [List.take_add_one, h]
 unfold Pr.rowT
 simp
theorem rrule7_any (x : Rd.Rule) (A : Option Addr) (cap B : Nat) (w : World) (hl : Cl w B A (namesV x.right)) (hB : B ≤ w.heap.size)
  (hs : x.left.length ≤ 100000 ∧ x.prec.length ≤ 100000 ∧ x.action.length ≤ 100000 ∧ x.right.length ≤ 100000 ∧ ∀ n ∈ x.right, n.length ≤ 100000) :
  Calls Tryz.prog 11 #[.agg #[.string (str x.left), .slice A x.right.length cap, .string (str x.prec), .string (str x.action)]] w fun e w' => e = .returned (.string (str (Pr.ruleT x))) ∧ Below w.heap.size w w' := by
 obtain ⟨left, right, prec, action⟩ := x
 simp only [] at hl hs ⊢
 obtain ⟨s1, s2, s3, s4, s5⟩ := hs
 obtain ⟨X0, hX0⟩ : ∃ S, str left = S := ⟨_, rfl⟩
 obtain ⟨X2, hX2⟩ : ∃ S, str prec = S := ⟨_, rfl⟩
 obtain ⟨X3, hX3⟩ : ∃ S, str action = S := ⟨_, rfl⟩
 have z0 := bl_len7 hX0
 have z2 := bl_len7 hX2
 have z3 := bl_len7 hX3
 have e2 := str_emp7 hX2
 have e3 := str_emp7 hX3
 obtain ⟨n, hn⟩ : ∃ n, right.length = n := ⟨_, rfl⟩
 have HN := Lib.hid hn
 have hn9 : n ≤ 100000 := by omega
 have HX0 := Lib.hid hX0
 have HR := Lib.hid s5
 have HCL := Lib.hid hl
 have HP2 := Lib.hid (show str (Pr.precT prec) = if prec = [] then ⟨#[]⟩ else ⟨#[32, 37, 112, 114, 101, 99, 32]⟩ ++ X2 by
  unfold Pr.precT
  rw [← hX2]
  by_cases h : prec = []
  ·rw [if_pos h, if_pos h]; rfl
  ·rw [if_neg h, if_neg h, str_app7]; rfl)
 have HP3 := Lib.hid (show str (Pr.actT action) = if action = [] then ⟨#[]⟩ else ⟨#[32, 123]⟩ ++ X3 ++ ⟨#[125]⟩ by
  unfold Pr.actT
  rw [← hX3]
  by_cases h : action = []
  ·rw [if_pos h, if_pos h]; rfl
  ·rw [if_neg h, if_neg h, show (32 : UInt8) :: 123 :: (action ++ [125]) = ([32, 123] ++ action) ++ [125] by simp, str_app7, str_app7]; rfl)
 have HBD := Lib.hid (fun (q : Nat) => show (str (left ++ ([32, 58] ++ Pr.rowT (right.take q)))).size ≤ 20000000000 by
  rw [← bl_length, bl_str]
  have h3 := row_len7 (right.take q) (fun y hy => s5 y (List.mem_of_mem_take hy))
  have h4 : (right.take q).length ≤ right.length := by rw [List.length_take]; exact Nat.min_le_right _ _
  simp only [List.length_append, List.length_cons, List.length_nil]; omega)
 have HSTEP := Lib.hid (fun (q : Nat) (y : Rd.Name) (hq : right[q]? = some y) => show str (left ++ ([32, 58] ++ Pr.rowT (right.take (q + 1)))) = str (left ++ ([32, 58] ++ Pr.rowT (right.take q))) ++ ⟨#[32]⟩ ++ str y by
  rw [row_snoc7 hq, show left ++ ([32, 58] ++ (Pr.rowT (right.take q) ++ ([32] ++ y))) = ((left ++ ([32, 58] ++ Pr.rowT (right.take q))) ++ [32]) ++ y by simp, str_app7, str_app7]; rfl)
 have HS0 := Lib.hid (show str (left ++ ([32, 58] ++ Pr.rowT (right.take 0))) = X0 ++ ⟨#[32, 58]⟩ by
  rw [List.take_zero, show Pr.rowT [] = [] from rfl, List.append_nil, str_app7, hX0]; rfl)
 have HEND := Lib.hid (show str (Pr.ruleT ⟨left, right, prec, action⟩) = ((str (left ++ ([32, 58] ++ Pr.rowT (right.take n))) ++ str (Pr.precT prec)) ++ str (Pr.actT action)) ++ ⟨#[32, 59]⟩ by
  unfold Pr.ruleT
  rw [← hn, List.take_length]
  show str (left ++ ([32, 58] ++ (Pr.rowT right ++ (Pr.precT prec ++ (Pr.actT action ++ [32, 59]))))) = _
  rw [show left ++ ([32, 58] ++ (Pr.rowT right ++ (Pr.precT prec ++ (Pr.actT action ++ [32, 59])))) = (((left ++ ([32, 58] ++ Pr.rowT right)) ++ Pr.precT prec) ++ Pr.actT action) ++ [32, 59] by simp, str_app7, str_app7, str_app7]; rfl)
 obtain ⟨OUT, hOUT⟩ : ∃ o, str (Pr.ruleT ⟨left, right, prec, action⟩) = o := ⟨_, rfl⟩
 rw [hOUT] at HEND ⊢
 rw [hX0, hX2, hX3, hn]
 have hgt := At.new w 36 #[.string X0, .slice A n cap, .string X2, .string X3]
 have hb := (Below.refl w.heap.size w).alloc (Nat.le_refl _) (.cells #[.string X0, .slice A n cap, .string X2, .string X3] 36)
 obtain ⟨W, hW⟩ : ∃ W, w.alloc (.cells #[.string X0, .slice A n cap, .string X2, .string X3] 36) = W := ⟨_, rfl⟩
 have HW := Lib.hid hW
 rw [hW] at hgt hb
 have HB := Lib.hid hb
 obtain ⟨g, hg⟩ : ∃ g, w.heap.size = g := ⟨_, rfl⟩
 have HG := Lib.hid hg
 rw [hg] at hgt
 have HGT := Lib.hid hgt
 have n1 : ¬ 9223372036854775807 < X0.size + 2 := by omega
 obtain ⟨p0, hp0⟩ : ∃ b, decide (prec = []) = b := ⟨_, rfl⟩
 obtain ⟨a0, ha0⟩ : ∃ b, decide (action = []) = b := ⟨_, rfl⟩
 have HP2' := Lib.hid (show str (Pr.precT prec) = if p0 = true then ⟨#[]⟩ else ⟨#[32, 37, 112, 114, 101, 99, 32]⟩ ++ X2 by rw [HP2.out, ← hp0]; simp)
 have HP3' := Lib.hid (show str (Pr.actT action) = if a0 = true then ⟨#[]⟩ else ⟨#[32, 123]⟩ ++ X3 ++ ⟨#[125]⟩ by rw [HP3.out, ← ha0]; simp)
 rw [hp0] at e2
 rw [ha0] at e3
 generalize str (Pr.precT prec) = YP at HP2' HEND
 generalize str (Pr.actT action) = YA at HP3' HEND
 clear hl s5 hX0 hX2 hX3 hn hW hb hg hgt HP2 HP3 hp0 ha0 hOUT
 go_enter Tryz.func11, Tryz.ntmps11
 go_wp2_with fail
 rw [HW.out, HG.out]
 go_loopw [3, 4] (fun s j wq => ∃ (q : Nat) (SQ : ByteArray), q ≤ n ∧ j = .int .i64 (q : Int) ∧ s = .string SQ ∧ SQ = str (left ++ ([32, 58] ++ Pr.rowT (right.take q))) ∧ Below W.heap.size W wq) (fun _ j _ => n - (intOf j).toNat)
 case atStart => exact ⟨0, _, by omega, rfl, rfl, HS0.out.symm, Below.refl _ _⟩
 case round =>
  obtain ⟨q, SQ, hq, rfl, rfl, hsq, hbq⟩ := hrel
  have HSQ := Lib.hid hsq
  have hsz : SQ.size ≤ 20000000000 := by rw [hsq]; exact HBD.out q
  have HBQ := Lib.hid hbq
  have hgq := HGT.out.below hbq HGT.out.lt
  have x0 := hgq.cell 0
  have x1 := hgq.cell 1
  have x2 := hgq.cell 2
  have x3 := hgq.cell 3
  simp only [List.getElem?_toArray, List.getElem?_cons_zero, List.getElem?_cons_succ] at x0 x1 x2 x3
  clear hsq hbq hgq
  by_cases hqn : q < n
  ·obtain ⟨y, hy⟩ := some_get (l := right) (i := q) (by rw [HN.out]; exact hqn)
   have hcl := HCL.out.below ((HB.out.trans (HBQ.out.mono HB.out.size)).mono hB)
   obtain ⟨rb, ro, hR, hrb, y0⟩ := cl_get hcl hy
   subst hR
   have hst := HSTEP.out q y hy
   have hyl : (str y).size ≤ 100000 := by rw [← bl_length, bl_str]; exact HR.out y (List.mem_of_getElem? hy)
   rw [← HSQ.out] at hst
   generalize str y = Y0 at y0 hst hyl
   have HNX := Lib.hid hst
   have hq2 : (q : Int) < (n : Int) := by omega
   have hq0 : (0 : Int) ≤ (q : Int) := by omega
   have n3 : ¬ 9223372036854775807 < SQ.size + 1 := by omega
   have n4 : ¬ 9223372036854775807 < SQ.size + 1 + Y0.size := by omega
   clear hy hst hcl
   go_wp2_with fail
   go_roundw
   case rel => exact ⟨q + 1, _, by omega, by go_num, rfl, HNX.out.symm, HBQ.out⟩
   case measure => simp [intOf]; omega
  ·obtain rfl : n = q := by omega
   have HBB := Lib.hid (HB.out.trans (HBQ.out.mono HB.out.size))
   have m1 : ¬ 9223372036854775807 < SQ.size + 7 := by omega
   have m2 : ¬ 9223372036854775807 < SQ.size + 7 + X2.size := by omega
   have m3 : ¬ 9223372036854775807 < SQ.size + 2 := by omega
   have m4 : ¬ 9223372036854775807 < SQ.size + 2 + X3.size := by omega
   have m5 : ¬ 9223372036854775807 < SQ.size + 2 + X3.size + 1 := by omega
   have m6 : ¬ 9223372036854775807 < SQ.size + 2 + X3.size + 1 + 2 := by omega
   have m7 : ¬ 9223372036854775807 < SQ.size + 7 + X2.size + 2 := by omega
   have m8 : ¬ 9223372036854775807 < SQ.size + 7 + X2.size + 2 + X3.size := by omega
   have m9 : ¬ 9223372036854775807 < SQ.size + 7 + X2.size + 2 + X3.size + 1 := by omega
   have m10 : ¬ 9223372036854775807 < SQ.size + 7 + X2.size + 2 + X3.size + 1 + 2 := by omega
   have HA := Lib.hid (fun a b c : ByteArray => (ByteArray.append_assoc : (a ++ b) ++ c = a ++ (b ++ c)))
   cases p0 <;> cases a0 <;> (go_wp2_with fail; go_ret; refine ⟨?_, HBB.out⟩; rw [HEND.out, HP2'.out, HP3'.out, ← HSQ.out]; first | rfl | (simp only [if_true, if_false, reduceCtorEq, app_nil7, HA.out, Bool.false_eq_true]; rfl))
end Go.Proofs.YtpgmapjjjpcmfaaGreatDoor
