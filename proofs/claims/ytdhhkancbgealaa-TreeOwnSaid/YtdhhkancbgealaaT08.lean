import Derived.Test.YtdhhkancbgealaaT04
import Derived.Test.YtdhhkancbgealaaT07
import Derived.BigQuiet
import Derived.Deep.QuietTactic
namespace Go.Proofs.Ytdhhkancbgealaa
open Go.RowKit
open Lx
set_option linter.unusedVariables false
set_option linter.unusedSimpArgs false
def nameB (l : List UInt8) : Bool := !l.isEmpty && decide ((nameOf l).length = l.length)
theorem rName_any (s : ByteArray) (w : World) (hs : s.size ≤ 9223372036854775807) :
  Calls Try.prog 85 #[.string s] w fun e w' => e = .returned (.bool (nameB (bl s))) ∧ w = w' := by
 have hnb : nameB (bl s) = (!s.toList.isEmpty && decide ((nameOf (bl s)).length = s.size)) := by unfold nameB; rw [toList_eq, bl_length]
 have HNB := Lib.hid hnb
 clear hnb
 go_enter Try.func85, Try.ntmps85
 go_wp2_with fail
 go_loop [3] (fun i => ∃ k : Nat, k ≤ s.size ∧ i = .int .i64 (k : Int) ∧ (nameOf (bl s)).length = k + (if k = 0 then nameOf (bl s) else ((bl s).drop k).takeWhile isName).length) (fun i => s.size - (intOf i).toNat)
 case atStart => exact ⟨0, by omega, rfl, by simp⟩
 case round =>
  obtain ⟨k, hk, rfl, hn⟩ := hrel
  have HN := Lib.hid hn
  clear hn
  by_cases hlt : k < s.size
  ·have HD := Lib.hid (bl_drop s k hlt)
   by_cases hl : isLetter s[k] = true
   ·go_wp2_with (go_at_call 88; refine (letter2_any _ _).mono ?_; rintro e w' ⟨rfl, rfl⟩)
    go_round
    case rel =>
     refine ⟨k + 1, by omega, by go_num, ?_⟩
     rw [HN.out]
     by_cases h0 : k = 0
     ·subst h0
      have e := HD.out
      simp only [List.drop_zero] at e
      rw [if_pos rfl, if_neg (by omega), e, name_cons, if_pos hl, List.takeWhile_cons_of_pos (letter_name hl)]
      simp; omega
     ·rw [if_neg h0, if_neg (by omega), HD.out, List.takeWhile_cons_of_pos (letter_name hl)]
      simp; omega
    case measure => simp [intOf]; omega
   ·have hl : isLetter s[k] = false := by simpa using hl
    by_cases h0 : k = 0
    ·have hn : (nameOf (bl s)).length = k := by
      rw [HN.out, if_pos h0]
      subst h0
      have e := HD.out
      simp only [List.drop_zero] at e
      rw [e, name_cons, hl]; rfl
     have H := Lib.hid hn
     have hg : ((k : Int) == 0) = true := by rw [h0]; rfl
     have hg2 : (k == 0) = true := by rw [h0]; rfl
     clear hn h0
     go_wp2_with (go_at_call 88; refine (letter2_any _ _).mono ?_; rintro e w' ⟨rfl, rfl⟩)
     go_ret
     refine ⟨?_, rfl⟩
     rw [HNB.out, H.out, decide_eq_false (by omega), Bool.and_false]; rfl
    ·have hg : ((k : Int) == 0) = false := by rw [beq_eq_false_iff_ne]; omega
     have hg2 : (k == 0) = false := by rw [beq_eq_false_iff_ne]; omega
     by_cases hd : isDigit s[k] = true
     ·have H0 := Lib.hid h0
      clear h0
      go_wp2_with (first | (go_at_call 88; refine (letter2_any _ _).mono ?_; rintro e w' ⟨rfl, rfl⟩) | (go_at_call 89; refine (digit2_any _ _).mono ?_; rintro e w' ⟨rfl, rfl⟩))
      go_round
      case rel =>
       refine ⟨k + 1, by omega, by go_num, ?_⟩
       have hnm : isName s[k] = true := by unfold isName; rw [hd]; simp
       rw [HN.out, if_neg H0.out, if_neg (by omega), HD.out, List.takeWhile_cons_of_pos hnm]
       simp; omega
      case measure => simp [intOf]; omega
     ·have hd : isDigit s[k] = false := by simpa using hd
      have hn : (nameOf (bl s)).length = k := by
       have hnm : ¬ isName s[k] = true := by unfold isName; rw [hd, hl]; simp
       rw [HN.out, if_neg h0, HD.out, List.takeWhile_cons_of_neg hnm]; simp
      have H := Lib.hid hn
      clear hn h0
      go_wp2_with (first | (go_at_call 88; refine (letter2_any _ _).mono ?_; rintro e w' ⟨rfl, rfl⟩) | (go_at_call 89; refine (digit2_any _ _).mono ?_; rintro e w' ⟨rfl, rfl⟩))
      go_ret
      refine ⟨?_, rfl⟩
      rw [HNB.out, H.out, decide_eq_false (by omega), Bool.and_false]; rfl
  ·have hn : (nameOf (bl s)).length = s.size ∨ s.toList.isEmpty = true := by
    have e : (bl s).drop k = [] := List.drop_of_length_le (by rw [bl_length]; omega)
    by_cases h0 : k = 0
    ·right
     subst h0
     rw [toList_eq]
     simp only [List.drop_zero] at e
     rw [e]; rfl
    ·left
     rw [HN.out, if_neg h0, e]; simp; omega
   have hres : nameB (bl s) = !s.toList.isEmpty := by
    rw [HNB.out]
    rcases hn with h | h
    ·rw [h]; simp
    ·rw [h]; rfl
   have HR := Lib.hid hres
   clear hn hres
   go_wp2_with fail
   go_ret
   exact ⟨by rw [HR.out]; rfl, rfl⟩
end Go.Proofs.Ytdhhkancbgealaa
namespace Go.Proofs.Ytdhhkancbgealaa
open Go.RowKit
open Lx
set_option linter.unusedVariables false
set_option linter.unusedSimpArgs false
set_option maxRecDepth 100000
structure Cl (w : World) (B : Nat) (A : Option Addr) (xs : List Value) : Prop where
 ex : xs ≠ [] → ∃ b o, A = some ⟨b, o, none⟩ ∧ b < B ∧ ∀ (j : Nat) (u : Value), xs[j]? = some u → w.cell? ⟨b, o + j, none⟩ = some u
theorem Cl.nil (w : World) (B : Nat) (A : Option Addr) : Cl w B A [] := ⟨fun h => absurd rfl h⟩
theorem Cl.below {w w' : World} {B : Nat} {A : Option Addr} {xs : List Value} (h : Cl w B A xs) (hb : Below B w w') : Cl w' B A xs := ⟨fun hn => by
 obtain ⟨b, o, h1, h2, h3⟩ := h.ex hn
 exact ⟨b, o, h1, h2, fun j u hu => (hb.cell (p := ⟨b, _, none⟩) h2).trans (h3 j u hu)⟩⟩
theorem Cl.mono {w : World} {B B' : Nat} {A : Option Addr} {xs : List Value} (h : Cl w B A xs) (hB : B ≤ B') : Cl w B' A xs := ⟨fun hn => by
 obtain ⟨b, o, h1, h2, h3⟩ := h.ex hn
 exact ⟨b, o, h1, by omega, h3⟩⟩
theorem Lie.cl {w : World} {t : TypeId} {A : Option Addr} {xs : List Value} (h : Lie w t A xs) : Cl w w.heap.size A xs := ⟨fun hn => h.cell hn⟩
def NmC (w : World) (B : Nat) (v : Value) (l : List Rd.Name) : Prop := ∃ A cap, v = .slice A l.length cap ∧ Cl w B A (namesV l)
theorem NmC.below {w w' : World} {B : Nat} {v : Value} {l : List Rd.Name} (h : NmC w B v l) (hb : Below B w w') : NmC w' B v l := by
 obtain ⟨A, cap, h1, h2⟩ := h; exact ⟨A, cap, h1, h2.below hb⟩
theorem NmC.mono {w : World} {B B' : Nat} {v : Value} {l : List Rd.Name} (h : NmC w B v l) (hB : B ≤ B') : NmC w B' v l := by
 obtain ⟨A, cap, h1, h2⟩ := h; exact ⟨A, cap, h1, h2.mono hB⟩
theorem nameOf_same (n : List UInt8) : decide ((nameOf n).length = n.length) = (nameOf n == n) := by
 cases n with
 | nil => rfl
 | cons c t =>
  have e : nameOf (c :: t) = if isLetter c then (c :: t).takeWhile isName else [] := rfl
  rw [e]
  by_cases hc : isLetter c = true
  ·rw [if_pos hc]
   by_cases h : (c :: t).takeWhile isName = c :: t
   ·rw [h]; simp
   ·have : ((c :: t).takeWhile isName).length ≠ (c :: t).length := fun hl => h ((List.takeWhile_prefix _).eq_of_length hl)
    rw [decide_eq_false this, beq_eq_false_iff_ne.2 h]
  ·rw [if_neg hc]; rfl
theorem nameOk_eq (n : List UInt8) : Pr.nameOk n = (decide (n.length ≤ 32) && nameB n) := by
 unfold Pr.nameOk nameB
 rw [nameOf_same]
 congr 2
 cases n <;> rfl
end Go.Proofs.Ytdhhkancbgealaa
namespace Go.Proofs.Ytdhhkancbgealaa
open Go.RowKit
open Lx
set_option linter.unusedVariables false
set_option linter.unusedSimpArgs false
set_option maxRecDepth 100000
def levC (p : Rd.Lev × Value × Int) : List Value := [.int .i64 p.2.2, p.2.1]
def levsC (l : List (Rd.Lev × Value × Int)) : List Value := l.flatMap levC
theorem namesV_get {l : List Rd.Name} {k : Nat} {x : Rd.Name} (h : l[k]? = some x) : (namesV l)[k]? = some (.string (str x)) := by simp [namesV, h]
theorem all_take {α : Type} {p : α → Bool} {l : List α} {k : Nat} {x : α} (hx : l[k]? = some x) (h : ∀ y ∈ l.take k, p y = true) (hp : p x = true) : ∀ y ∈ l.take (k + 1), p y = true := by
 intro y hy
 rw [List.take_add_one, hx] at hy
 rcases List.mem_append.1 hy with h1 | h1
 ·exact h y h1
 ·simp at h1; subst h1; exact hp
end Go.Proofs.Ytdhhkancbgealaa
