/-
  The walks of lexer's cut, and Lex.
  The walk of lexer's Lex.
-/
import Derived.Test.YtpgmapjjjpcmfaaGreatDoorLxD
import Derived.Test.YtpgmapjjjpcmfaaGreatDoorLxAB
import Derived.Test.YtpgmapjjjpcmfaaGreatDoorLxAA
import Derived.Deep.RegionWith
namespace Go.Proofs.YtpgmapjjjpcmfaaGreatDoor
open Go.RowKit
open Lx
set_option linter.unusedVariables false
set_option linter.unusedSimpArgs false

set_option maxHeartbeats 1000000 in
theorem cut_piece (s : ByteArray) (w : World) (hs : s.size ≤ 4000) (h1 : 1 ≤ s.size) (hf : Firm (bl s)) (hT : Tab w) (h0 : 1 < w.heap.size) :
    Calls Tryz.prog 98 #[.string s] w fun e w' => e = .returned (pieceV (Lx.step (bl s))) ∧ Below w.heap.size w w' := by
  have hd : bl s = s[0] :: (bl s).drop 1 := by
    have h := bl_drop s 0 (by omega)
    rw [List.drop_zero] at h
    exact h
  rw [hd] at hf
  have hfh := firm_head hf
  have HFH := Lib.hid hfh
  have HD := Lib.hid hd
  clear hfh hf
  have HT := Lib.hid hT
  have HAT := Lib.hid (At.new w 131 #[.int .i64 0, .string ⟨#[]⟩, .int .i64 0, .int .i64 0])
  have HBEL := Lib.hid ((Below.refl w.heap.size w).alloc (Nat.le_refl _) (.cells #[.int .i64 0, .string ⟨#[]⟩, .int .i64 0, .int .i64 0] 131))
  have HT1 := Lib.hid (hT.alloc h0 (.cells #[.int .i64 0, .string ⟨#[]⟩, .int .i64 0, .int .i64 0] 131))
  clear hT
  generalize hst : Lx.step (bl s) = st
  have HST := Lib.hid hst
  clear hst hd
  by_cases hc : s[0] = 37
  · have c1 : ((s[0].toNat : Int) == 37) = true := u8_is hc
    have HC := Lib.hid hc
    have HM := Lib.hid ((HST.out.symm.trans (congrArg Lx.step (HD.out.trans (congrArg (· :: (bl s).drop 1) HC.out)))).trans (step_word ((bl s).drop 1)))
    clear hc
    go_enter Tryz.func98, Tryz.ntmps98
    go_wp2_with fail
    refine (word_any s _ hs h1 HC.out).mono ?_
    rw [← HM.out]
    rintro e w1 ⟨rfl, hb⟩
    unfold pieceV
    first | (rename_i hK; refine hK _ _ ?_) | (rename_i hK _; refine hK _ _ ?_) | (rename_i hK _ _; refine hK _ _ ?_) | (rename_i hK _ _ _; refine hK _ _ ?_)
    have HA := Lib.hid (HAT.out.below hb HAT.out.lt)
    refine wpList_store_at rfl _ _ _ rfl rfl w.heap.size _ _ [_, _, _, _] rfl rfl HA.out 4 Tryz.sizePiece rfl rfl rfl ?_
    intro w2 hat hg
    go_wp2_with fail
    exact bodyPost_ret (results_cell_row rfl _ _ w.heap.size _ _ (0, 0) _ rfl hat Tryz.underlying131 rfl Tryz.sizePiece) rfl ⟨rfl, below_grown (HBEL.out.trans (hb.mono HBEL.out.size)) hg (by have := hb.size; have := HBEL.out.size; omega) (Nat.le_refl _)⟩
  have c1 : ((s[0].toNat : Int) == 37) = false := u8_ne hc
  have H1 := Lib.hid hc
  clear hc
  by_cases hc : s[0] = 34
  · have c2 : ((s[0].toNat : Int) == 34) = true := u8_is hc
    have HC := Lib.hid hc
    have HM := Lib.hid ((HST.out.symm.trans (congrArg Lx.step (HD.out.trans (congrArg (· :: (bl s).drop 1) HC.out)))).trans (step_text ((bl s).drop 1)))
    clear hc
    go_enter Tryz.func98, Tryz.ntmps98
    go_wp2_with fail
    refine (text_any s _ hs HT1.out (by simp; try omega)).mono ?_
    rw [← HM.out]
    rintro e w1 ⟨rfl, hb⟩
    unfold pieceV
    first | (rename_i hK; refine hK _ _ ?_) | (rename_i hK _; refine hK _ _ ?_) | (rename_i hK _ _; refine hK _ _ ?_) | (rename_i hK _ _ _; refine hK _ _ ?_)
    have HA := Lib.hid (HAT.out.below hb HAT.out.lt)
    refine wpList_store_at rfl _ _ _ rfl rfl w.heap.size _ _ [_, _, _, _] rfl rfl HA.out 4 Tryz.sizePiece rfl rfl rfl ?_
    intro w2 hat hg
    go_wp2_with fail
    exact bodyPost_ret (results_cell_row rfl _ _ w.heap.size _ _ (0, 0) _ rfl hat Tryz.underlying131 rfl Tryz.sizePiece) rfl ⟨rfl, below_grown (HBEL.out.trans (hb.mono HBEL.out.size)) hg (by have := hb.size; have := HBEL.out.size; omega) (Nat.le_refl _)⟩
  have c2 : ((s[0].toNat : Int) == 34) = false := u8_ne hc
  have H2 := Lib.hid hc
  clear hc
  by_cases hc : s[0] = 91
  · have c3 : ((s[0].toNat : Int) == 91) = true := u8_is hc
    have HC := Lib.hid hc
    have HM := Lib.hid ((HST.out.symm.trans (congrArg Lx.step (HD.out.trans (congrArg (· :: (bl s).drop 1) HC.out)))).trans (step_cls ((bl s).drop 1)))
    clear hc
    go_enter Tryz.func98, Tryz.ntmps98
    go_wp2_with fail
    refine (class_any s _ hs HT1.out (by simp; try omega)).mono ?_
    rw [← HM.out]
    rintro e w1 ⟨rfl, hb⟩
    unfold pieceV
    first | (rename_i hK; refine hK _ _ ?_) | (rename_i hK _; refine hK _ _ ?_) | (rename_i hK _ _; refine hK _ _ ?_) | (rename_i hK _ _ _; refine hK _ _ ?_)
    have HA := Lib.hid (HAT.out.below hb HAT.out.lt)
    refine wpList_store_at rfl _ _ _ rfl rfl w.heap.size _ _ [_, _, _, _] rfl rfl HA.out 4 Tryz.sizePiece rfl rfl rfl ?_
    intro w2 hat hg
    go_wp2_with fail
    exact bodyPost_ret (results_cell_row rfl _ _ w.heap.size _ _ (0, 0) _ rfl hat Tryz.underlying131 rfl Tryz.sizePiece) rfl ⟨rfl, below_grown (HBEL.out.trans (hb.mono HBEL.out.size)) hg (by have := hb.size; have := HBEL.out.size; omega) (Nat.le_refl _)⟩
  have c3 : ((s[0].toNat : Int) == 91) = false := u8_ne hc
  have H3 := Lib.hid hc
  clear hc
  by_cases hc : s[0] = 123
  · have c4 : ((s[0].toNat : Int) == 123) = true := u8_is hc
    have HC := Lib.hid hc
    have HM := Lib.hid ((HST.out.symm.trans (congrArg Lx.step (HD.out.trans (congrArg (· :: (bl s).drop 1) HC.out)))).trans (step_act ((bl s).drop 1)))
    clear hc
    go_enter Tryz.func98, Tryz.ntmps98
    go_wp2_with fail
    refine (action_any s _ hs h1 HC.out).mono ?_
    rw [← HM.out]
    rintro e w1 ⟨rfl, hb⟩
    unfold pieceV
    first | (rename_i hK; refine hK _ _ ?_) | (rename_i hK _; refine hK _ _ ?_) | (rename_i hK _ _; refine hK _ _ ?_) | (rename_i hK _ _ _; refine hK _ _ ?_)
    have HA := Lib.hid (HAT.out.below hb HAT.out.lt)
    refine wpList_store_at rfl _ _ _ rfl rfl w.heap.size _ _ [_, _, _, _] rfl rfl HA.out 4 Tryz.sizePiece rfl rfl rfl ?_
    intro w2 hat hg
    go_wp2_with fail
    exact bodyPost_ret (results_cell_row rfl _ _ w.heap.size _ _ (0, 0) _ rfl hat Tryz.underlying131 rfl Tryz.sizePiece) rfl ⟨rfl, below_grown (HBEL.out.trans (hb.mono HBEL.out.size)) hg (by have := hb.size; have := HBEL.out.size; omega) (Nat.le_refl _)⟩
  have c4 : ((s[0].toNat : Int) == 123) = false := u8_ne hc
  have H4 := Lib.hid hc
  clear hc
  by_cases hc : s[0] = 43
  · have c5 : ((s[0].toNat : Int) == 43) = true := u8_is hc
    have HC := Lib.hid hc
    have HM := Lib.hid ((HST.out.symm.trans (congrArg Lx.step (HD.out.trans (congrArg (· :: (bl s).drop 1) HC.out)))).trans (step_43 ((bl s).drop 1)))
    clear hc
    go_enter Tryz.func98, Tryz.ntmps98
    go_wp2_with fail
    exact bodyPost_ret (v := pieceV st) (by rw [HM.out]; simp [results, Tryz.results98, go_sem]; rfl) rfl ⟨rfl, (Below.refl _ _).alloc (Nat.le_refl _) _⟩
  have c5 : ((s[0].toNat : Int) == 43) = false := u8_ne hc
  have H5 := Lib.hid hc
  clear hc
  by_cases hc : s[0] = 58
  · have c6 : ((s[0].toNat : Int) == 58) = true := u8_is hc
    have HC := Lib.hid hc
    have HM := Lib.hid ((HST.out.symm.trans (congrArg Lx.step (HD.out.trans (congrArg (· :: (bl s).drop 1) HC.out)))).trans (step_58 ((bl s).drop 1)))
    clear hc
    go_enter Tryz.func98, Tryz.ntmps98
    go_wp2_with fail
    exact bodyPost_ret (v := pieceV st) (by rw [HM.out]; simp [results, Tryz.results98, go_sem]; rfl) rfl ⟨rfl, (Below.refl _ _).alloc (Nat.le_refl _) _⟩
  have c6 : ((s[0].toNat : Int) == 58) = false := u8_ne hc
  have H6 := Lib.hid hc
  clear hc
  by_cases hc : s[0] = 124
  · have c7 : ((s[0].toNat : Int) == 124) = true := u8_is hc
    have HC := Lib.hid hc
    have HM := Lib.hid ((HST.out.symm.trans (congrArg Lx.step (HD.out.trans (congrArg (· :: (bl s).drop 1) HC.out)))).trans (step_124 ((bl s).drop 1)))
    clear hc
    go_enter Tryz.func98, Tryz.ntmps98
    go_wp2_with fail
    exact bodyPost_ret (v := pieceV st) (by rw [HM.out]; simp [results, Tryz.results98, go_sem]; rfl) rfl ⟨rfl, (Below.refl _ _).alloc (Nat.le_refl _) _⟩
  have c7 : ((s[0].toNat : Int) == 124) = false := u8_ne hc
  have H7 := Lib.hid hc
  clear hc
  by_cases hc : s[0] = 59
  · have c8 : ((s[0].toNat : Int) == 59) = true := u8_is hc
    have HC := Lib.hid hc
    have HM := Lib.hid ((HST.out.symm.trans (congrArg Lx.step (HD.out.trans (congrArg (· :: (bl s).drop 1) HC.out)))).trans (step_59 ((bl s).drop 1)))
    clear hc
    go_enter Tryz.func98, Tryz.ntmps98
    go_wp2_with fail
    exact bodyPost_ret (v := pieceV st) (by rw [HM.out]; simp [results, Tryz.results98, go_sem]; rfl) rfl ⟨rfl, (Below.refl _ _).alloc (Nat.le_refl _) _⟩
  have c8 : ((s[0].toNat : Int) == 59) = false := u8_ne hc
  have H8 := Lib.hid hc
  clear hc
  obtain ⟨N, hN⟩ : ∃ N, nameOf (bl s) = N := ⟨_, rfl⟩
  have hNl : N.length ≤ s.size := by rw [← hN]; have := nameOf_le (bl s); rwa [bl_length] at this
  have HN := Lib.hid hN
  clear hN
  by_cases hl : isLetter s[0] = true
  · have hpos : 0 < N.length := by rw [← HN.out, HD.out]; exact nameOf_pos hl
    have hpi : (0 : Int) < (N.length : Int) := by omega
    have hle : (N.length : Int) ≤ (s.size : Int) := by omega
    have hm : st = if 32 < N.length then .bad 12 0 else .mark 1 N N.length := by
      rw [← HST.out, ← HN.out]
      conv => lhs; rw [HD.out]
      rw [step_letter _ hl]
      rw [← HD.out]
    have hx : s.extract 0 N.length = str N := by
      rw [ext_str, List.drop_zero, Nat.sub_zero]
      congr 1
      rw [← HN.out, HD.out]
      simp only [nameOf, hl, if_true]
      exact (List.prefix_iff_eq_take.1 (List.takeWhile_prefix isName)).symm
    have hz : (s.extract 0 N.length).size = N.length := by rw [size_ext _ _ _ (by omega) hNl]; omega
    have hq : (if 32 < (s.extract 0 N.length).size then Step.bad 12 0 else Step.mark 1 (s.extract 0 N.length).data.toList N.length) = st := by
      rw [hm, hz, hx]; rfl
    have HQ := Lib.hid hq
    have HZ := Lib.hid hz
    clear hm hx hz hq hl
    go_enter Tryz.func98, Tryz.ntmps98
    go_wp2_with fail
    refine (nameSize_any s _ (by omega)).mono ?_
    rw [HN.out]
    rintro e w1 ⟨rfl, rfl⟩
    go_wp2_with fail
    refine (limited_any 1 N.length 32 (s.extract 0 N.length) _ (by rw [HZ.out]; omega)).mono ?_
    rw [HQ.out]
    rintro e w1 ⟨rfl, hb⟩
    unfold pieceV
    first | (rename_i hK; refine hK _ _ ?_) | (rename_i hK _; refine hK _ _ ?_) | (rename_i hK _ _; refine hK _ _ ?_) | (rename_i hK _ _ _; refine hK _ _ ?_)
    have HA := Lib.hid (HAT.out.below hb HAT.out.lt)
    refine wpList_store_at rfl _ _ _ rfl rfl w.heap.size _ _ [_, _, _, _] rfl rfl HA.out 4 Tryz.sizePiece rfl rfl rfl ?_
    intro w2 hat hg
    go_wp2_with fail
    exact bodyPost_ret (results_cell_row rfl _ _ w.heap.size _ _ (0, 0) _ rfl hat Tryz.underlying131 rfl Tryz.sizePiece) rfl ⟨rfl, below_grown (HBEL.out.trans (hb.mono HBEL.out.size)) hg (by have := hb.size; have := HBEL.out.size; omega) (Nat.le_refl _)⟩
  · have hl : isLetter s[0] = false := by simpa using hl
    have hm : st = .bad 10 0 := by
      rw [← HST.out, HD.out]
      exact step_else _ HFH.out.1 HFH.out.2 hl H1.out H2.out H3.out H4.out H5.out H6.out H7.out H8.out
    have hn0 : N = [] := by rw [← HN.out, HD.out]; simp [nameOf, hl]
    subst hn0
    have HM := Lib.hid hm
    clear hm hl
    go_enter Tryz.func98, Tryz.ntmps98
    go_wp2_with fail
    refine (nameSize_any s _ (by omega)).mono ?_
    rw [HN.out]
    rintro e w1 ⟨rfl, rfl⟩
    go_wp2_with fail
    refine (fault_any 10 0 _).mono ?_
    rintro e w1 ⟨rfl, hb⟩
    first | (rename_i hK; refine hK _ _ ?_) | (rename_i hK _; refine hK _ _ ?_) | (rename_i hK _ _; refine hK _ _ ?_) | (rename_i hK _ _ _; refine hK _ _ ?_)
    have HA := Lib.hid (HAT.out.below hb HAT.out.lt)
    refine wpList_store_at rfl _ _ _ rfl rfl w.heap.size _ _ [_, _, _, _] rfl rfl HA.out 4 Tryz.sizePiece rfl rfl rfl ?_
    intro w2 hat hg
    go_wp2_with fail
    exact bodyPost_ret (results_cell_row rfl _ _ w.heap.size _ _ (0, 0) _ rfl hat Tryz.underlying131 rfl Tryz.sizePiece) rfl ⟨by rw [HM.out]; rfl, below_grown (HBEL.out.trans (hb.mono HBEL.out.size)) hg (by have := hb.size; have := HBEL.out.size; omega) (Nat.le_refl _)⟩

end Go.Proofs.YtpgmapjjjpcmfaaGreatDoor

namespace Go.Proofs.YtpgmapjjjpcmfaaGreatDoor
open Go.RowKit
open Lx
set_option linter.unusedVariables false
set_option linter.unusedSimpArgs false

def Lx.Mk.cells (m : Mk) : List Value := [.int .i64 (m.kind : Int), .string (str m.text), .int .i64 (m.line : Int), .int .i64 (m.col : Int)]
def marksV (ms : List Mk) : List Value := ms.flatMap Mk.cells
theorem marksV_length (ms : List Mk) : (marksV ms).length = ms.length * 4 := by
  unfold marksV
  induction ms with
  | nil => rfl
  | cons m r ih => rw [List.flatMap_cons, List.length_append, ih]; simp [Mk.cells]; omega
theorem marksV_snoc (ms : List Mk) (m : Mk) : marksV (ms ++ [m]) = marksV ms ++ m.cells := by simp [marksV]
theorem marksV_get : ∀ (ms : List Mk) (i j : Nat), i < ms.length → j < 4 → (marksV ms)[i * 4 + j]? = (ms.getD i ⟨0, [], 0, 0⟩).cells[j]?
  | [], i, j, hi, _ => by simp at hi
  | m :: r, 0, j, _, hj => by
    unfold marksV
    rw [List.flatMap_cons, List.getElem?_append_left (by simp [Mk.cells]; omega)]
    simp
  | m :: r, i + 1, j, hi, hj => by
    have ih := marksV_get r i j (by simpa using hi) hj
    unfold marksV at *
    rw [List.flatMap_cons, List.getElem?_append_right (by simp [Mk.cells]; omega)]
    have e : (i + 1) * 4 + j - m.cells.length = i * 4 + j := by simp [Mk.cells]; omega
    rw [e, ih]; simp

/-- The marks lie at A. -/
structure MAt (w : World) (A : Option Addr) (ms : List Mk) : Prop where
  ex : ms ≠ [] → ∃ (b : Nat) (cs : Array Value), A = some ⟨b, 0, none⟩ ∧ At w b 124 cs ∧ ∀ (j : Nat) (u : Value), (marksV ms)[j]? = some u → cs[j]? = some u
theorem MAt.below {w w' : World} {A : Option Addr} {ms : List Mk} (h : MAt w A ms) (hb : Below w.heap.size w w') : MAt w' A ms :=
  ⟨fun hn => by
    obtain ⟨b, cs, h1, h2, h3⟩ := h.ex hn
    exact ⟨b, cs, h1, h2.below hb h2.lt, h3⟩⟩
theorem MAt.nil (w : World) (A : Option Addr) : MAt w A [] := ⟨fun h => absurd rfl h⟩
theorem MAt.drewN {w : World} {A : Option Addr} {ms : List Mk} (h : MAt w A ms) (n : Nat) : MAt (w.drewN n) A ms := ⟨h.ex⟩
theorem MAt.drew {w : World} {A : Option Addr} {ms : List Mk} (h : MAt w A ms) : MAt w.drew A ms := ⟨h.ex⟩
theorem MAt.far {w w' : World} {A : Option Addr} {ms : List Mk} (h : MAt w A ms) {g : Nat} {t : TypeId} {cs : Array Value} (hg : At w g t cs) (ht : t ≠ 124) (hk : w.grownBy w' (some g)) : MAt w' A ms :=
  ⟨fun hn => by
    obtain ⟨b, cs', h1, h2, h3⟩ := h.ex hn
    refine ⟨b, cs', h1, h2.grown hk (fun e => ?_), h3⟩
    injection e with e
    subst e
    unfold At at hg h2
    rw [hg] at h2
    injection h2 with h2
    injection h2 with _ h2
    exact ht h2⟩
theorem MAt.of_own {w : World} {B n cap : Nat} {ao : Option Addr} {ms : List Mk} (h : w.ownsRow B 124 4 (.slice ao n cap) n (marksV ms)) : MAt w ao ms :=
  ⟨fun hn => by
    rcases h.2 with ⟨_, hx⟩ | ⟨g, cap', cur, e, hb, hg, hnc, hcm, hcs, htake⟩
    · have hl := h.1
      rw [marksV_length] at hl
      exact absurd (List.eq_nil_of_length_eq_zero (by omega)) hn
    · injection e with e1 _ _
      subst e1
      refine ⟨g, cur, rfl, hg, fun j u hj => ?_⟩
      rw [← htake] at hj
      have hj' : j < n * 4 := by
        have := (List.getElem?_eq_some_iff.1 hj).1
        simp at this; omega
      rw [List.getElem?_take_of_lt hj'] at hj
      simpa using hj⟩
theorem MAt.cell {w : World} {A : Option Addr} {ms : List Mk} (h : MAt w A ms) {i : Nat} (hi : i < ms.length) : ∃ b, A = some ⟨b, 0, none⟩ ∧ b < w.heap.size ∧
    w.cell? ⟨b, i * 4, none⟩ = some (.int .i64 ((ms.getD i ⟨0, [], 0, 0⟩).kind : Int)) ∧ w.cell? ⟨b, i * 4 + 1, none⟩ = some (.string (str (ms.getD i ⟨0, [], 0, 0⟩).text)) ∧
    w.cell? ⟨b, i * 4 + 2, none⟩ = some (.int .i64 ((ms.getD i ⟨0, [], 0, 0⟩).line : Int)) ∧ w.cell? ⟨b, i * 4 + 3, none⟩ = some (.int .i64 ((ms.getD i ⟨0, [], 0, 0⟩).col : Int)) := by
  obtain ⟨b, cs, h1, h2, h3⟩ := h.ex (fun e => by rw [e] at hi; simp at hi)
  have h4 : ∀ (j : Nat) (u : Value), (marksV ms)[j]? = some u → w.cell? ⟨b, j, none⟩ = some u := fun j u hj => (h2.cell j).trans (h3 j u hj)
  refine ⟨b, h1, h2.lt, h4 _ _ ?_, h4 _ _ ?_, h4 _ _ ?_, h4 _ _ ?_⟩
  · have := marksV_get ms i 0 hi (by omega); simpa [Mk.cells] using this
  · have := marksV_get ms i 1 hi (by omega); simpa [Mk.cells] using this
  · have := marksV_get ms i 2 hi (by omega); simpa [Mk.cells] using this
  · have := marksV_get ms i 3 hi (by omega); simpa [Mk.cells] using this

def diagV (d : Nat × Nat × Nat) : Value := .agg #[.int .i64 (d.1 : Int), .int .i64 (d.2.1 : Int), .int .i64 (d.2.2 : Int)]
/-- What Lex tells of the text L. -/
structure Lexed (L : List UInt8) (w : World) (e : Ending) (w' : World) : Prop where
  ex : ∃ (A : Option Addr) (cap : Nat), e = .returned (.tuple #[.slice A ((lex L).marks L).length cap, diagV ((lex L).diag L)]) ∧ MAt w' A ((lex L).marks L)
  below : Below w.heap.size w w'

/-- The same, and the list has room for its marks. -/
structure LexedR (L : List UInt8) (w : World) (e : Ending) (w' : World) : Prop where
  lexed : Lexed L w e w'
  room : ∀ A n cap d, e = .returned (.tuple #[.slice A n cap, d]) → n ≤ cap
theorem own_room {w : World} {B e size n cap m : Nat} {ao : Option Addr} {xs : List Value} (h : w.ownsRow B e size (.slice ao n cap) m xs) : n ≤ cap := by
  rcases h.2 with ⟨h1, _⟩ | ⟨g, c, cur, h1, _, _, h2, _⟩
  · injection h1 with _ h3 _; omega
  · injection h1 with _ h3 h4; omega

theorem results_tmp_cell {P : Program} {fn : Func} {q p : Tmp} {ty : TypeId} (h : fn.results = #[.tmp q, .cell p ty]) (tmps : Array Value) (w : World) (v : Value) (hv : tmps.getD q undef = v) (g : Nat) (t : TypeId) (cs : Array Value) (d : TypeDesc)
    (hp : tmps.getD p undef = .pointer (some ⟨g, 0, none⟩)) (hg : At w g t cs)
    (hu : P.underlying ty = some d) (hd : (match d with | .struct _ | .array _ _ => true | _ => false) = true) (hi : (P.info? ty).map (·.size) = some cs.size) :
    (results fn tmps).run P w = .ok (.tuple #[v, .agg cs]) w := by
  have hp' : tmps[p]?.getD undef = .pointer (some ⟨g, 0, none⟩) := by simpa using hp
  have hv' : tmps[q]?.getD undef = v := by simpa using hv
  simp [results, h, hp', hv', asAddr, run_loadVar_row w g t ty cs (0, 0) d hg hu hd hi]
theorem At.three {w : World} {g : Nat} {t : TypeId} {a b c : Value} (h : At w g t #[a, b, c]) (a' b' c' : Value) :
    At (((w.setCell ⟨g, 0, none⟩ a').setCell ⟨g, 1, none⟩ b').setCell ⟨g, 2, none⟩ c') g t #[a', b', c'] := by
  have := ((h.set 0 a').set 1 b').set 2 c'
  simpa using this
theorem grown_three (w : World) (g : Nat) (a' b' c' : Value) : w.grownBy (((w.setCell ⟨g, 0, none⟩ a').setCell ⟨g, 1, none⟩ b').setCell ⟨g, 2, none⟩ c') (some g) :=
  grown_set (grown_set (grown_set (grown_refl _ _) _ _) _ _) _ _

theorem four_cells (w : World) (m : Mk) (t : TypeId) : ∀ j u, m.cells[j]? = some u → (w.alloc (.cells #[.int .i64 (m.kind : Int), .string (str m.text), .int .i64 (m.line : Int), .int .i64 (m.col : Int)] t)).cell? ((⟨w.heap.size, 0, none⟩ : Addr).add j) = some u := by
  intro j u hj
  have hadd : (⟨w.heap.size, 0, none⟩ : Addr).add j = ⟨w.heap.size, j, none⟩ := by unfold Addr.add; split <;> simp_all
  rw [hadd, (At.new w t _).cell j, ← hj]
  simp [Mk.cells]
theorem four_one (m : Mk) : ∀ u ∈ m.cells, u.oneCell' = true := by
  intro u hu
  simp only [Mk.cells, List.mem_cons, List.not_mem_nil, or_false] at hu
  rcases hu with rfl | rfl | rfl | rfl <;> rfl
theorem Tryz.sizeMark : (Tryz.prog.info? 124).map (·.size) = some 4 := by kernel_rfl
theorem markinfo : (Tryz.prog.info? 124).map (fun i => (i.zero, i.size, i.bytes)) = some (some (.agg #[.int .i64 0, .string ⟨#[]⟩, .int .i64 0, .int .i64 0]), 4, 40) := by kernel_rfl

theorem lex_long {L : List UInt8} (h : 4000 < L.length) : lex L = .bad 12 0 := by unfold lex; rw [if_pos h]
theorem lex_short {L : List UInt8} (h : L.length ≤ 4000) : lex L = Lx.run (L.length + 1) L 0 [] := by unfold lex; rw [if_neg (by omega)]

set_option maxHeartbeats 2000000 in
set_option maxRecDepth 100000 in
theorem lex_far (s : ByteArray) (w : World) (hs : 4000 < s.size) (hm : s.size ≤ 9223372036854775807) :
    Calls Tryz.prog 75 #[.string s] w (LexedR (bl s) w) := by
  have hl := lex_long (L := bl s) (by rw [bl_length]; exact hs)
  have HL := Lib.hid hl
  clear hl
  go_enter Tryz.func75, Tryz.ntmps75
  go_wp2_with fail
  refine (At_any s 0 _ hm (by omega)).mono ?_
  rw [show min (max (0 : Int) 0).toNat s.size = 0 by omega, pos_zero]
  rintro e w1 ⟨rfl, hb⟩
  have HAT := Lib.hid ((At.new w 82 #[.int .i64 0, .int .i64 0, .int .i64 0]).below hb (by simp))
  have HBEL := Lib.hid ((Below.refl w.heap.size w).alloc (Nat.le_refl _) (.cells #[.int .i64 0, .int .i64 0, .int .i64 0] 82) |>.trans (hb.mono (by simp)))
  clear hb
  have hsz := HAT.out.lt
  have cd0 := HAT.out.cell 0
  have cd1 := HAT.out.cell 1
  have cd2 := HAT.out.cell 2
  have cdf := HAT.out.frozen
  simp only [List.getElem?_toArray, List.getElem?_cons_zero, List.getElem?_cons_succ] at cd0 cd1 cd2
  go_wp2_with fail
  go_region
  go_wp2_with fail
  refine bodyPost_ret (results_tmp_cell rfl _ _ _ rfl w.heap.size _ _ _ rfl (((HAT.out.three _ _ _).alloc _).drew) Tryz.underlying82 rfl Tryz.sizeDiag) rfl ⟨⟨⟨none, 0, ?_, ?_⟩, ?_⟩, fun A n cap d he => by simp at he; omega⟩
  · rw [HL.out]; rfl
  · rw [HL.out]; exact MAt.nil _ _
  · exact below_drew ((below_grown HBEL.out (grown_three _ _ _ _ _) HBEL.out.size (Nat.le_refl _)).alloc (by simp; omega) _)

theorem At.heap {w w' : World} {g : Nat} {t : TypeId} {cs : Array Value} (h : At w g t cs) (e : w'.heap = w.heap) : At w' g t cs := by
  unfold At at *; rw [e]; exact h
def strSize : Value → Nat
  | .string t => t.size
  | _ => 0

theorem new_two (w : World) (o : Obj) (t : TypeId) (cs : Array Value) : At ((w.alloc o).alloc (.cells cs t)).drew (w.heap.size + 1) t cs := by
  have := At.new (w.alloc o) t cs
  simp at this
  exact this
theorem below_undrew {B : Nat} {a w : World} (h : Below B a.drew w) : Below B a w := ⟨h.os, h.tape, h.output, h.size, h.block⟩
theorem two_set {w : World} {g : Nat} {t : TypeId} {a b : Value} (h : At w g t #[a, b]) (a' b' : Value) : At ((w.setCell ⟨g, 0, none⟩ a').setCell ⟨g, 1, none⟩ b') g t #[a', b'] := by
  have := (h.set 0 a').set 1 b'
  simpa using this
set_option maxHeartbeats 4000000 in
set_option maxRecDepth 100000 in
theorem lex_near (s : ByteArray) (w : World) (hs : s.size ≤ 4000) (hT : Tab w) (h0 : 1 < w.heap.size) :
    Calls Tryz.prog 75 #[.string s] w (LexedR (bl s) w) := by
  have hl := lex_short (L := bl s) (by rw [bl_length]; exact hs)
  have HL := Lib.hid hl
  clear hl
  have HT := Lib.hid hT
  clear hT
  obtain ⟨i0, hi, hz0, hz1, hzb⟩ := info_parts markinfo
  go_enter Tryz.func75, Tryz.ntmps75
  go_wp2_with fail
  refine (At_any s 0 _ (by omega) (by omega)).mono ?_
  rw [show min (max (0 : Int) 0).toNat s.size = 0 by omega, pos_zero]
  rintro e w1 ⟨rfl, hb⟩
  have HAT := Lib.hid ((At.new w 82 #[.int .i64 0, .int .i64 0, .int .i64 0]).below hb (by simp))
  have HBEL := Lib.hid ((Below.refl w.heap.size w).alloc (Nat.le_refl _) (.cells #[.int .i64 0, .int .i64 0, .int .i64 0] 82) |>.trans (hb.mono (by simp)))
  clear hb
  have hsz := HAT.out.lt
  go_wp2_with fail
  obtain ⟨gh, hgh⟩ : ∃ gh, gh = w1.heap.size := ⟨_, rfl⟩
  have HH := Lib.hid (At.new w1 80 #[.int .i64 1, .int .i64 1])
  have hgh2 : w.heap.size < gh := by omega
  rw [← hgh] at HH ⊢
  have HGH := Lib.hid hgh
  clear hgh
  have HL0 := Lib.hid HL.out
  go_loopw [0, 5] (fun v0 v5 wr => ∃ (t : ByteArray) (i f : Nat) (acc : List (Nat × List UInt8 × Nat)) (ao : Option Addr) (cap : Nat), v0 = .string t ∧ v5 = .slice ao acc.length cap ∧ bl t = (bl s).drop i ∧ i + t.size = s.size ∧ lex (bl s) = Lx.run f (bl t) i acc ∧ t.size < f ∧ acc.length ≤ i ∧ wr.ownsRow (w.heap.size + 1) 124 4 (.slice ao acc.length cap) acc.length (marksV (acc.map (mkOf (bl s)))) ∧ At wr gh 80 #[.int .i64 ((pos (bl s) i).1 : Int), .int .i64 ((pos (bl s) i).2 : Int)] ∧ At wr w.heap.size 82 #[.int .i64 0, .int .i64 0, .int .i64 0] ∧ Below w.heap.size w wr) (fun v0 _ _ => strSize v0)
  case atStart => exact ⟨s, 0, (bl s).length + 1, [], none, 0, rfl, rfl, rfl, by omega, HL.out, by rw [bl_length]; omega, by simp, World.ownsRow_nil _ _ _ _, HH.out, HAT.out.alloc _, HBEL.out.alloc HBEL.out.size _⟩
  case round =>
    obtain ⟨t, i, f, acc, ao, cap, rfl, rfl, ht, hts, hrun, hf, hacc, hown, hhere, hat, hbel⟩ := hrel
    have HTE := Lib.hid ht
    have HRUN := Lib.hid hrun
    have HOWN := Lib.hid hown
    have HHERE := Lib.hid hhere
    have HDG := Lib.hid hat
    have HB := Lib.hid hbel
    clear ht hrun hown hhere hat hbel
    go_wp2_with fail
    refine (blank_any t _ (by omega)).mono ?_
    rintro e w2 ⟨k, n, rfl, hsk, hfirm, rfl⟩
    have hk : k ≤ t.size := by have := hsk.le; rwa [bl_length] at this
    have HSK := Lib.hid hsk
    have HFIRM := Lib.hid hfirm
    clear hsk hfirm
    have hki : (k : Int) ≤ (t.size : Int) := by omega
    have hk0 : (0 : Int) ≤ (k : Int) := by omega
    obtain ⟨P, hP⟩ : ∃ P, pos (bl s) i = P := ⟨_, rfl⟩
    obtain ⟨P2, hP2⟩ : ∃ P2, pos (bl s) (i + k) = P2 := ⟨_, rfl⟩
    have hPl := pos_le (bl s) i
    rw [hP, bl_length] at hPl
    have hadv : adv P (bl (t.extract 0 k)) = P2 := by
      rw [← hP, ← hP2, pos_add, bl_ext, HTE.out, List.drop_zero, Nat.sub_zero]
    have HADV := Lib.hid hadv
    have HP := Lib.hid hP
    have HP2 := Lib.hid hP2
    have HX := Lib.hid HHERE.out
    rw [hP] at HX
    clear hadv hP hP2
    obtain ⟨hq1, hq2, hq3, hq4⟩ := hPl
    have hzk : (t.extract 0 k).size = k := by rw [size_ext _ _ _ (by omega) hk]; omega
    have HZK := Lib.hid hzk
    clear hzk
    have hc0 := HX.out.cell 0
    have hc1 := HX.out.cell 1
    have hcf := HX.out.frozen
    simp only [List.getElem?_toArray, List.getElem?_cons_zero, List.getElem?_cons_succ] at hc0 hc1
    go_wp2_with fail
    go_region_with (go_at_call 97; refine Calls.mono (behind_any (t.extract 0 k) P _ (by omega) (by omega) (by rw [HZK.out]; omega) (by rw [HZK.out]; omega)) ?_; rw [HADV.out]; rintro e w' ⟨rfl, hb⟩; have hx := (HX.out.heap (by rfl)).below hb (by exact HX.out.lt); have hd0 := hx.cell 0; have hd1 := hx.cell 1; have hdf := hx.frozen; simp only [List.getElem?_toArray, List.getElem?_cons_zero, List.getElem?_cons_succ] at hd0 hd1)
    obtain ⟨W3, hW3⟩ : ∃ W3, (w'.setCell ⟨gh, 0, none⟩ (.int .i64 (P2.1 : Int))).setCell ⟨gh, 1, none⟩ (.int .i64 (P2.2 : Int)) = W3 := ⟨_, rfl⟩
    have hB1 : Below w.heap.size w w' := (below_drewN HB.out (n + 1)).trans (hb.mono HB.out.size)
    have hx3 : At W3 gh 80 #[.int .i64 (P2.1 : Int), .int .i64 (P2.2 : Int)] := by
      rw [← hW3]; have := (hx.set 0 (.int .i64 (P2.1 : Int))).set 1 (.int .i64 (P2.2 : Int)); simpa using this
    have hB3 : Below w.heap.size w W3 := by rw [← hW3]; exact (hB1.setCell (by simp; omega) _).setCell (by simp; omega) _
    have hD3 : At W3 w.heap.size 82 #[.int .i64 0, .int .i64 0, .int .i64 0] := by
      rw [← hW3]; exact (((HDG.out.drewN (n + 1)).below hb (HDG.out.drewN (n + 1)).lt).far (by simp; omega) _).far (by simp; omega) _
    have hO1 := own_below (own_drewN HOWN.out (n + 1)) hb (fun j hj => (own_lt (own_drewN HOWN.out (n + 1)) j hj).2)
    have hO3 : W3.ownsRow (w.heap.size + 1) 124 4 (.slice ao acc.length cap) acc.length (marksV (acc.map (mkOf (bl s)))) := by
      rw [← hW3]
      exact own_keeps hO1 (((Keeps.refl [gh] w').set (.inl (by simp)) _).set (.inl (by simp)) _) (fun j hj hm => own_apart hO1 hx (by decide) (by simp at hm; rw [hj, hm]))
    have HX3 := Lib.hid hx3
    have HB3 := Lib.hid hB3
    have HD3 := Lib.hid hD3
    have HO3 := Lib.hid hO3
    rw [hW3]
    clear hb hx hdf hd0 hd1 hc0 hc1 hcf hB1 hx3 hB3 hD3 hO1 hO3 hW3
    have hsz3 := HD3.out.lt
    have hgl3 := HX3.out.lt
    obtain ⟨t2, ht2⟩ : ∃ t2, t.extract k t.size = t2 := ⟨_, rfl⟩
    have hbt2 : bl t2 = (bl s).drop (i + k) := by rw [← ht2, bl_end, HTE.out, List.drop_drop]
    have hst2 : t2.size + k = t.size := by rw [← ht2, size_ext _ _ _ hk (by omega)]; omega
    obtain ⟨f2, hf2, hr2⟩ := HSK.out.run f i acc (by rw [bl_length]; exact hf)
    rw [bl_length] at hf2
    have hbk : (bl t).drop k = bl t2 := by rw [hbt2, HTE.out, List.drop_drop]
    rw [← HRUN.out, hbk] at hr2
    have HF2 : Hid (Firm (bl t2)) := Lib.hid (by rw [← hbk]; exact HFIRM.out)
    have HR2 := Lib.hid hr2
    have HBT2 := Lib.hid hbt2
    rw [ht2]
    clear hbt2 hr2 hbk ht2
    by_cases hz2 : t2.size = 0
    · have hb0 : bl t2 = [] := List.eq_nil_of_length_eq_zero (by rw [bl_length]; exact hz2)
      have hlex : lex (bl s) = .ok (acc ++ [(0, [], i + k)]) := by rw [HR2.out, hb0]; exact Lx.run_end (by omega)
      have he1 : t2.toList.isEmpty = true := by rw [toList_eq, hb0]; rfl
      have he2 : t2.toList = [] := by rw [toList_eq, hb0]
      have HLEX := Lib.hid hlex
      clear hlex hb0
      have hcx0 := HX3.out.cell 0
      have hcx1 := HX3.out.cell 1
      simp only [List.getElem?_toArray, List.getElem?_cons_zero, List.getElem?_cons_succ] at hcx0 hcx1
      have hc3 : acc.length + 1 ≤ maxLen := by unfold maxLen; omega
      have hc4 : (acc.length + 1) * 40 ≤ 140737488355328 := by omega
      have hc5 : ∀ o, w.heap.size + 1 ≤ (W3.alloc o).heap.size := fun o => by simp; omega
      go_wp2_with (at_builtin; refine wpList_append_own2 _ rfl (.tmp 28) (.tmp 31) 110 rfl (w.heap.size + 1) 124 i0 _ 4 40 Tryz.underlying110 hi hz0 hz1 hzb rfl (by decide) _ acc.length (marksV (acc.map (mkOf (bl s)))) rfl (HO3.out.alloc _) ⟨W3.heap.size, 0, none⟩ 1 1 (Mk.cells ⟨0, [], P2.1, P2.2⟩) rfl rfl (four_cells _ _ _) (four_one _) hc3 hc4 (hc5 _) ?_)
      intro v' w5 hown' hgrow hsn
      obtain ⟨ao', cap', rfl⟩ := own_form hown'
      have R5 : w5.ownsRow (w.heap.size + 1) 124 4 (.slice ao' (acc.length + 1) cap') (acc.length + 1) (marksV ((acc ++ [(0, [], i + k)]).map (mkOf (bl s)))) ∧ At w5 gh 80 #[.int .i64 (P2.1 : Int), .int .i64 (P2.2 : Int)] ∧ At w5 w.heap.size 82 #[.int .i64 0, .int .i64 0, .int .i64 0] ∧ Below w.heap.size w w5 :=
        ⟨by rw [List.map_append, List.map_cons, List.map_nil, marksV_snoc]; unfold mkOf; simp only [HP2.out]; exact hown', (HX3.out.alloc _).grown hgrow (fun e => own_apart HO3.out HX3.out (by decide) e.symm), (HD3.out.alloc _).grown hgrow (fun e => by have := (own_lt HO3.out _ e.symm).1; omega), (HB3.out.alloc HB3.out.size _).grown hgrow (by simp; omega) (fun j hj => by have := (own_lt HO3.out _ hj).1; omega)⟩
      have HR := Lib.hid R5
      have HG := Lib.hid hgrow
      clear hown' hgrow hsn R5
      have cd0 := HR.out.2.2.1.cell 0
      have cd1 := HR.out.2.2.1.cell 1
      have cd2 := HR.out.2.2.1.cell 2
      have cdf := HR.out.2.2.1.frozen
      simp only [List.getElem?_toArray, List.getElem?_cons_zero, List.getElem?_cons_succ] at cd0 cd1 cd2
      go_wp2_with fail
      have hal : acc.length + 1 = ((lex (bl s)).marks (bl s)).length := by rw [HLEX.out]; simp [Out.marks]
      refine bodyPost_ret (results_tmp_cell rfl _ _ _ rfl w.heap.size _ _ _ rfl (HR.out.2.2.1.three _ _ _) Tryz.underlying82 rfl Tryz.sizeDiag) rfl ⟨⟨⟨ao', cap', ?_, ?_⟩, ?_⟩, ?_⟩
      · rw [← hal, HLEX.out]; rfl
      · rw [HLEX.out]
        refine MAt.of_own (B := w.heap.size + 1) (cap := cap') (n := acc.length + 1) ?_
        exact own_keeps HR.out.1 ((((Keeps.refl [w.heap.size] w5).set (.inl (by simp)) _).set (.inl (by simp)) _).set (.inl (by simp)) _) (fun j hj hm => by have := (own_lt HR.out.1 j hj).1; simp at hm; omega)
      · exact below_grown HR.out.2.2.2 (grown_three _ _ _ _ _) HR.out.2.2.2.size (Nat.le_refl _)
      · intro A n cap d he
        have := own_room HR.out.1
        simp at he
        omega
    · have hpos : 1 ≤ t2.size := by omega
      have hne : bl t2 ≠ [] := fun e => by have := bl_length t2; rw [e] at this; simp at this; omega
      have he1 : t2.toList.isEmpty = false := by rw [toList_eq, List.isEmpty_eq_false_iff]; exact hne
      have hfit : (Lx.step (bl t2)).Fits 0 t2.size := by
        have h1 := bl_drop t2 0 (by omega)
        rw [List.drop_zero] at h1
        have h2 := step_fits t2[0] ((bl t2).drop (0 + 1))
        rw [← h1, bl_length] at h2
        exact h2
      have HNE := Lib.hid hne
      clear hne
      have hTab := HT.out.below HB3.out h0
      have HTAB := Lib.hid hTab
      clear hTab
      rcases hst : Lx.step (bl t2) with m | ⟨kd, tx, m⟩ | ⟨c, m⟩
      · rcases HF2.out with h | h
        · exact absurd h HNE.out
        · exact absurd hst (h m)
      · rw [hst] at hfit
        obtain ⟨m1, m2, k1, k2, hx256⟩ := hfit
        have HST := Lib.hid hst
        clear hst
        go_wp2_with fail
        refine (cut_piece t2 _ (by omega) hpos HF2.out HTAB.out (by omega)).mono ?_
        rw [HST.out]
        rintro e w4 ⟨rfl, hb4⟩
        have hX4 := HX3.out.below hb4 HX3.out.lt
        have hB4 := HB3.out.trans (hb4.mono HB3.out.size)
        have hD4 := HD3.out.below hb4 HD3.out.lt
        have hO4 := own_below HO3.out hb4 (fun j hj => (own_lt HO3.out j hj).2)
        have HX4 := Lib.hid hX4
        have HB4 := Lib.hid hB4
        have HD4 := Lib.hid hD4
        have HO4 := Lib.hid hO4
        clear hb4 hX4 hB4 hD4 hO4
        obtain ⟨P3, hP3⟩ : ∃ P3, pos (bl s) (i + k + m) = P3 := ⟨_, rfl⟩
        have hadv2 : adv P2 (bl (t2.extract 0 m)) = P3 := by
          rw [← HP2.out, ← hP3, pos_add (bl s) (i + k) m, bl_ext, HBT2.out, List.drop_zero, Nat.sub_zero]
        have hPl := pos_le (bl s) (i + k)
        rw [HP2.out, bl_length] at hPl
        obtain ⟨hr1, hr2, hr3, hr4⟩ := hPl
        have hzm : (t2.extract 0 m).size = m := by rw [size_ext _ _ _ (by omega) (by omega)]; omega
        have HADV2 := Lib.hid hadv2
        have HP3 := Lib.hid hP3
        have HZM := Lib.hid hzm
        clear hadv2 hP3 hzm
        have hmi : (m : Int) ≤ (t2.size : Int) := by omega
        have hm0 : (0 : Int) ≤ (m : Int) := by omega
        have hsz4 := HD4.out.lt
        have hgl4 := HX4.out.lt
        have hcx0 := HX4.out.cell 0
        have hcx1 := HX4.out.cell 1
        simp only [List.getElem?_toArray, List.getElem?_cons_zero, List.getElem?_cons_succ] at hcx0 hcx1
        simp only [pieceV, Step.kindV, Step.textV, Step.size, Step.code]
        go_wp2_with fail
        have hne8 : ¬ (w4.heap.size + 1 = gh) := by omega
        have hne9 : ¬ (gh = w4.heap.size + 1) := by omega
        go_region_held3 (fun w' => w'.cell? ⟨gh, 0, none⟩ = some (.int .i64 (P2.1 : Int)) ∧ w'.cell? ⟨gh, 1, none⟩ = some (.int .i64 (P2.2 : Int)) ∧ w'.cell? ⟨w4.heap.size, 2, none⟩ = some (.int .i64 (m : Int))) (go_keep) (first
          | (go_at_call 97; refine Calls.mono (behind_any (t2.extract 0 m) P2 _ (by omega) (by omega) (by rw [HZM.out]; omega) (by rw [HZM.out]; omega)) ?_; rw [HADV2.out]; rintro e w6 ⟨rfl, hb6⟩
             have hk6 : Below (w4.heap.size + 1) (w4.alloc (.cells #[.int .i64 (kd : Int), .string (str tx), .int .i64 (m : Int), .int .i64 0] 131)) w6 := by first | exact (below_undrew hb6).mono (by simp) | exact ((Below.refl _ _).alloc (by simp) _).trans ((below_undrew hb6).mono (by simp))
             try (have ha6 := (new_two w4 _ _ _).below hb6 (by simp); have c60 := ha6.cell 0; have c61 := ha6.cell 1; have c6f := ha6.frozen; simp only [List.getElem?_toArray, List.getElem?_cons_zero, List.getElem?_cons_succ] at c60 c61)
             have hx6 := (HX4.out.alloc (.cells #[.int .i64 (kd : Int), .string (str tx), .int .i64 (m : Int), .int .i64 0] 131)).below hk6 (by omega)
             have hp6 := (At.new w4 131 #[.int .i64 (kd : Int), .string (str tx), .int .i64 (m : Int), .int .i64 0]).below hk6 (by omega)
             have cy0 := hx6.cell 0
             have cy1 := hx6.cell 1
             have cy2 := hp6.cell 2
             simp only [List.getElem?_toArray, List.getElem?_cons_zero, List.getElem?_cons_succ] at cy0 cy1 cy2))
        all_goals
          first
            | (have hk7 := (hk6.setCell (p := ⟨w4.heap.size + 1, 0, none⟩) (by simp) (.int .i64 (P3.1 : Int))).setCell (p := ⟨w4.heap.size + 1, 1, none⟩) (by simp) (.int .i64 (P3.2 : Int))
               have hn7 := two_set ha6 (.int .i64 (P3.1 : Int)) (.int .i64 (P3.2 : Int))
               clear c60 c61 c6f ha6
               generalize (w6.setCell ⟨w4.heap.size + 1, 0, none⟩ (.int .i64 (P3.1 : Int))).setCell ⟨w4.heap.size + 1, 1, none⟩ (.int .i64 (P3.2 : Int)) = W7 at hk7 hn7 ⊢
               generalize w4.heap.size + 1 = gb at hn7 ⊢)
            | (have hk7 := hk6.alloc (by have := hk6.size; simp at this; omega) (.cells #[.int .i64 (P3.1 : Int), .int .i64 (P3.2 : Int)] 80)
               have hn7 := At.new w6 80 #[.int .i64 (P3.1 : Int), .int .i64 (P3.2 : Int)]
               generalize w6.alloc (.cells #[.int .i64 (P3.1 : Int), .int .i64 (P3.2 : Int)] 80) = W7 at hk7 hn7 ⊢
               generalize w6.heap.size = gb at hn7 ⊢)
        all_goals
          have hX7 := (HX4.out.alloc (.cells #[.int .i64 (kd : Int), .string (str tx), .int .i64 (m : Int), .int .i64 0] 131)).below hk7 (by omega)
          have hP7 := (At.new w4 131 #[.int .i64 (kd : Int), .string (str tx), .int .i64 (m : Int), .int .i64 0]).below hk7 (by omega)
          have hD7 := (HD4.out.alloc (.cells #[.int .i64 (kd : Int), .string (str tx), .int .i64 (m : Int), .int .i64 0] 131)).below hk7 (by omega)
          have hB7 := (HB4.out.alloc HB4.out.size (.cells #[.int .i64 (kd : Int), .string (str tx), .int .i64 (m : Int), .int .i64 0] 131)).trans (hk7.mono (by have := HB4.out.size; omega))
          have hO7 := own_below (HO4.out.alloc (.cells #[.int .i64 (kd : Int), .string (str tx), .int .i64 (m : Int), .int .i64 0] 131)) hk7 (fun j hj => by have := (own_lt HO4.out j hj).2; omega)
          have HX7 := Lib.hid hX7
          have HP7 := Lib.hid hP7
          have HD7 := Lib.hid hD7
          have HB7 := Lib.hid hB7
          have HO7 := Lib.hid hO7
          have HN7 := Lib.hid hn7
          clear hX7 hP7 hD7 hB7 hO7 hn7 hk7 hb6 hk6 hx6 hp6 cy0 cy1 cy2 hcx0 hcx1
          have hsz7 := HD7.out.lt
          have hgl7 := HX7.out.lt
          have cp0 := HP7.out.cell 0
          have cp1 := HP7.out.cell 1
          have cp2 := HP7.out.cell 2
          have cp3 := HP7.out.cell 3
          have ch0 := HX7.out.cell 0
          have ch1 := HX7.out.cell 1
          have cn0 := HN7.out.cell 0
          have cn1 := HN7.out.cell 1
          simp only [List.getElem?_toArray, List.getElem?_cons_zero, List.getElem?_cons_succ] at cp0 cp1 cp2 cp3 ch0 ch1 cn0 cn1
        all_goals
          have hlex : lex (bl s) = Lx.run (f2 - 1) ((bl t2).drop m) (i + k + m) (acc ++ [(kd, tx, i + k)]) := by rw [HR2.out]; exact Lx.run_mark (by omega) HNE.out HST.out
          have HLEX := Lib.hid hlex
          clear hlex
          have hc3 : acc.length + 1 ≤ maxLen := by unfold maxLen; omega
          have hc4 : (acc.length + 1) * 40 ≤ 140737488355328 := by omega
          have hc5 : ∀ o, w.heap.size + 1 ≤ (W7.alloc o).heap.size := fun o => by simp; omega
          go_wp2_with (at_builtin; refine wpList_append_own2 _ rfl (.tmp 49) (.tmp 56) 110 rfl (w.heap.size + 1) 124 i0 _ 4 40 Tryz.underlying110 hi hz0 hz1 hzb rfl (by decide) _ acc.length (marksV (acc.map (mkOf (bl s)))) rfl (HO7.out.alloc _) ⟨W7.heap.size, 0, none⟩ 1 1 (Mk.cells ⟨kd, tx, P2.1, P2.2⟩) rfl rfl (four_cells _ _ _) (four_one _) hc3 hc4 (hc5 _) ?_)
          intro v' w5 hown' hgrow hsn
          obtain ⟨ao', cap', rfl⟩ := own_form hown'
          have R5 : w5.ownsRow (w.heap.size + 1) 124 4 (.slice ao' (acc.length + 1) cap') (acc.length + 1) (marksV ((acc ++ [(kd, tx, i + k)]).map (mkOf (bl s)))) ∧ At w5 gh 80 #[.int .i64 (P2.1 : Int), .int .i64 (P2.2 : Int)] ∧ At w5 w.heap.size 82 #[.int .i64 0, .int .i64 0, .int .i64 0] ∧ Below w.heap.size w w5 :=
            ⟨by rw [List.map_append, List.map_cons, List.map_nil, marksV_snoc]; unfold mkOf; simp only [HP2.out]; exact hown', (HX7.out.alloc _).grown hgrow (fun e => own_apart HO7.out HX7.out (by decide) e.symm), (HD7.out.alloc _).grown hgrow (fun e => by have := (own_lt HO7.out _ e.symm).1; omega), (HB7.out.alloc HB7.out.size _).grown hgrow (by simp; omega) (fun j hj => by have := (own_lt HO7.out _ hj).1; omega)⟩
          have HR := Lib.hid R5
          have HG := Lib.hid hgrow
          clear hown' hgrow hsn R5
          have hP5 := (HP7.out.alloc (.cells #[.int .i64 (kd : Int), .string (str tx), .int .i64 (P2.1 : Int), .int .i64 (P2.2 : Int)] 124)).grown HG.out (fun e => own_apart HO7.out HP7.out (by decide) e.symm)
          have hN5 := (HN7.out.alloc (.cells #[.int .i64 (kd : Int), .string (str tx), .int .i64 (P2.1 : Int), .int .i64 (P2.2 : Int)] 124)).grown HG.out (fun e => own_apart HO7.out HN7.out (by decide) e.symm)
          have cq2 := hP5.cell 2
          have cn0' := hN5.cell 0
          have cn1' := hN5.cell 1
          have ch0' := HR.out.2.1.cell 0
          have ch1' := HR.out.2.1.cell 1
          have chf' := HR.out.2.1.frozen
          simp only [List.getElem?_toArray, List.getElem?_cons_zero, List.getElem?_cons_succ] at cq2 cn0' cn1' ch0' ch1'
          clear hP5 hN5 cp0 cp1 cp2 cp3 ch0 ch1 cn0 cn1
          go_wp2_with fail
          go_region
          go_wp2_with fail
          go_roundw
          case rel =>
            have hz7 : (t2.extract m t2.size).size = t2.size - m := by rw [size_ext _ _ _ (by omega) (by omega)]
            refine ⟨t2.extract m t2.size, i + k + m, f2 - 1, acc ++ [(kd, tx, i + k)], ao', cap', rfl, by simp, by rw [bl_end, HBT2.out, List.drop_drop], by rw [hz7]; omega, by rw [bl_end]; exact HLEX.out, by rw [hz7]; omega, by simp; omega, ?_, ?_, ?_, ?_⟩
            · have h := own_keeps HR.out.1 (((Keeps.refl [gh] w5).set (p := ⟨gh, 0, none⟩) (.inl (by simp)) (.int .i64 (P3.1 : Int))).set (p := ⟨gh, 1, none⟩) (.inl (by simp)) (.int .i64 (P3.2 : Int))).drew (fun j hj hm => own_apart HR.out.1 HR.out.2.1 (by decide) (by simp at hm; rw [hj, hm]))
              simpa using h
            · rw [HP3.out]; exact (two_set HR.out.2.1 _ _).drew
            · exact ((HR.out.2.2.1.far (by simp; omega) _).far (by simp; omega) _).drew
            · exact below_drew ((HR.out.2.2.2.setCell (by simp; omega) _).setCell (by simp; omega) _)
          case measure =>
            have hz7 : (t2.extract m t2.size).size = t2.size - m := by rw [size_ext _ _ _ (by omega) (by omega)]
            show (t2.extract m t2.size).size < t.size
            omega
      · rw [hst] at hfit
        obtain ⟨m2, k1, k2⟩ := hfit
        have HST := Lib.hid hst
        clear hst
        have hcn : ((c : Int) == 0) = false := by rw [beq_eq_false_iff_ne]; omega
        have hcn2 : ((c : Int) != 0) = true := by rw [bne_iff_ne]; omega
        go_wp2_with fail
        refine (cut_piece t2 _ (by omega) hpos HF2.out HTAB.out (by omega)).mono ?_
        rw [HST.out]
        rintro e w4 ⟨rfl, hb4⟩
        have hX4 := HX3.out.below hb4 HX3.out.lt
        have hB4 := HB3.out.trans (hb4.mono HB3.out.size)
        have hD4 := HD3.out.below hb4 HD3.out.lt
        have hO4 := own_below HO3.out hb4 (fun j hj => (own_lt HO3.out j hj).2)
        have HX4 := Lib.hid hX4
        have HB4 := Lib.hid hB4
        have HD4 := Lib.hid hD4
        have HO4 := Lib.hid hO4
        clear hb4 hX4 hB4 hD4 hO4
        obtain ⟨P3, hP3⟩ : ∃ P3, pos (bl s) (i + k + m) = P3 := ⟨_, rfl⟩
        have hadv2 : adv P2 (bl (t2.extract 0 m)) = P3 := by
          rw [← HP2.out, ← hP3, pos_add (bl s) (i + k) m, bl_ext, HBT2.out, List.drop_zero, Nat.sub_zero]
        have hPl := pos_le (bl s) (i + k)
        rw [HP2.out, bl_length] at hPl
        obtain ⟨hr1, hr2, hr3, hr4⟩ := hPl
        have hzm : (t2.extract 0 m).size = m := by rw [size_ext _ _ _ (by omega) (by omega)]; omega
        have HADV2 := Lib.hid hadv2
        have HP3 := Lib.hid hP3
        have HZM := Lib.hid hzm
        clear hadv2 hP3 hzm
        have hmi : (m : Int) ≤ (t2.size : Int) := by omega
        have hm0 : (0 : Int) ≤ (m : Int) := by omega
        have hsz4 := HD4.out.lt
        have hgl4 := HX4.out.lt
        have hcx0 := HX4.out.cell 0
        have hcx1 := HX4.out.cell 1
        simp only [List.getElem?_toArray, List.getElem?_cons_zero, List.getElem?_cons_succ] at hcx0 hcx1
        simp only [pieceV, Step.kindV, Step.textV, Step.size, Step.code]
        go_wp2_with fail
        have hne8 : ¬ (w4.heap.size + 1 = gh) := by omega
        have hne9 : ¬ (gh = w4.heap.size + 1) := by omega
        go_region_held3 (fun w' => w'.cell? ⟨gh, 0, none⟩ = some (.int .i64 (P2.1 : Int)) ∧ w'.cell? ⟨gh, 1, none⟩ = some (.int .i64 (P2.2 : Int)) ∧ w'.cell? ⟨w4.heap.size, 2, none⟩ = some (.int .i64 (m : Int))) (go_keep) (first
          | (go_at_call 97; refine Calls.mono (behind_any (t2.extract 0 m) P2 _ (by omega) (by omega) (by rw [HZM.out]; omega) (by rw [HZM.out]; omega)) ?_; rw [HADV2.out]; rintro e w6 ⟨rfl, hb6⟩
             have hk6 : Below (w4.heap.size + 1) (w4.alloc (.cells #[.int .i64 0, .string (str []), .int .i64 (m : Int), .int .i64 (c : Int)] 131)) w6 := by first | exact (below_undrew hb6).mono (by simp) | exact ((Below.refl _ _).alloc (by simp) _).trans ((below_undrew hb6).mono (by simp))
             try (have ha6 := (new_two w4 _ _ _).below hb6 (by simp); have c60 := ha6.cell 0; have c61 := ha6.cell 1; have c6f := ha6.frozen; simp only [List.getElem?_toArray, List.getElem?_cons_zero, List.getElem?_cons_succ] at c60 c61)
             have hx6 := (HX4.out.alloc (.cells #[.int .i64 0, .string (str []), .int .i64 (m : Int), .int .i64 (c : Int)] 131)).below hk6 (by omega)
             have hp6 := (At.new w4 131 #[.int .i64 0, .string (str []), .int .i64 (m : Int), .int .i64 (c : Int)]).below hk6 (by omega)
             have cy0 := hx6.cell 0
             have cy1 := hx6.cell 1
             have cy2 := hp6.cell 2
             simp only [List.getElem?_toArray, List.getElem?_cons_zero, List.getElem?_cons_succ] at cy0 cy1 cy2))
        all_goals
          first
            | (have hk7 := (hk6.setCell (p := ⟨w4.heap.size + 1, 0, none⟩) (by simp) (.int .i64 (P3.1 : Int))).setCell (p := ⟨w4.heap.size + 1, 1, none⟩) (by simp) (.int .i64 (P3.2 : Int))
               have hn7 := two_set ha6 (.int .i64 (P3.1 : Int)) (.int .i64 (P3.2 : Int))
               clear c60 c61 c6f ha6
               generalize (w6.setCell ⟨w4.heap.size + 1, 0, none⟩ (.int .i64 (P3.1 : Int))).setCell ⟨w4.heap.size + 1, 1, none⟩ (.int .i64 (P3.2 : Int)) = W7 at hk7 hn7 ⊢
               generalize w4.heap.size + 1 = gb at hn7 ⊢)
            | (have hk7 := hk6.alloc (by have := hk6.size; simp at this; omega) (.cells #[.int .i64 (P3.1 : Int), .int .i64 (P3.2 : Int)] 80)
               have hn7 := At.new w6 80 #[.int .i64 (P3.1 : Int), .int .i64 (P3.2 : Int)]
               generalize w6.alloc (.cells #[.int .i64 (P3.1 : Int), .int .i64 (P3.2 : Int)] 80) = W7 at hk7 hn7 ⊢
               generalize w6.heap.size = gb at hn7 ⊢)
        all_goals
          have hX7 := (HX4.out.alloc (.cells #[.int .i64 0, .string (str []), .int .i64 (m : Int), .int .i64 (c : Int)] 131)).below hk7 (by omega)
          have hP7 := (At.new w4 131 #[.int .i64 0, .string (str []), .int .i64 (m : Int), .int .i64 (c : Int)]).below hk7 (by omega)
          have hD7 := (HD4.out.alloc (.cells #[.int .i64 0, .string (str []), .int .i64 (m : Int), .int .i64 (c : Int)] 131)).below hk7 (by omega)
          have hB7 := (HB4.out.alloc HB4.out.size (.cells #[.int .i64 0, .string (str []), .int .i64 (m : Int), .int .i64 (c : Int)] 131)).trans (hk7.mono (by have := HB4.out.size; omega))
          have hO7 := own_below (HO4.out.alloc (.cells #[.int .i64 0, .string (str []), .int .i64 (m : Int), .int .i64 (c : Int)] 131)) hk7 (fun j hj => by have := (own_lt HO4.out j hj).2; omega)
          have HX7 := Lib.hid hX7
          have HP7 := Lib.hid hP7
          have HD7 := Lib.hid hD7
          have HB7 := Lib.hid hB7
          have HO7 := Lib.hid hO7
          have HN7 := Lib.hid hn7
          clear hX7 hP7 hD7 hB7 hO7 hn7 hk7 hb6 hk6 hx6 hp6 cy0 cy1 cy2 hcx0 hcx1
          have hsz7 := HD7.out.lt
          have hgl7 := HX7.out.lt
          have cp0 := HP7.out.cell 0
          have cp1 := HP7.out.cell 1
          have cp2 := HP7.out.cell 2
          have cp3 := HP7.out.cell 3
          have ch0 := HX7.out.cell 0
          have ch1 := HX7.out.cell 1
          have cn0 := HN7.out.cell 0
          have cn1 := HN7.out.cell 1
          simp only [List.getElem?_toArray, List.getElem?_cons_zero, List.getElem?_cons_succ] at cp0 cp1 cp2 cp3 ch0 ch1 cn0 cn1
        all_goals
          have hlex : lex (bl s) = .bad c (i + k + m) := by rw [HR2.out]; exact Lx.run_bad (by omega) HNE.out HST.out
          have HLEX := Lib.hid hlex
          clear hlex
          have cd0 := HD7.out.cell 0
          have cd1 := HD7.out.cell 1
          have cd2 := HD7.out.cell 2
          have cdf := HD7.out.frozen
          simp only [List.getElem?_toArray, List.getElem?_cons_zero, List.getElem?_cons_succ] at cd0 cd1 cd2
          go_wp2_with fail
          go_region
          go_wp2_with fail
          refine bodyPost_ret (results_tmp_cell rfl _ _ _ rfl w.heap.size _ _ _ rfl ((HD7.out.three _ _ _).drew) Tryz.underlying82 rfl Tryz.sizeDiag) rfl ⟨⟨⟨none, 0, ?_, ?_⟩, ?_⟩, fun A n cap d he => by simp at he; omega⟩
          · rw [HLEX.out]
            have e : (Out.bad c (i + k + m)).diag (bl s) = (c, P3.1, P3.2) := by unfold Out.diag; simp only [HP3.out]
            rw [e]; rfl
          · rw [HLEX.out]; exact MAt.nil _ _
          · exact below_drew (below_grown HB7.out (grown_three _ _ _ _ _) HB7.out.size (Nat.le_refl _))

theorem lex_room (s : ByteArray) (w : World) (hm : s.size ≤ 9223372036854775807) (hT : Tab w) (h0 : 1 < w.heap.size) :
    Calls Tryz.prog 75 #[.string s] w (LexedR (bl s) w) := by
  by_cases h : 4000 < s.size
  · exact lex_far s w h hm
  · exact lex_near s w (by omega) hT h0
theorem lex_any (s : ByteArray) (w : World) (hm : s.size ≤ 9223372036854775807) (hT : Tab w) (h0 : 1 < w.heap.size) :
    Calls Tryz.prog 75 #[.string s] w (Lexed (bl s) w) := (lex_room s w hm hT h0).mono fun e w' h => h.lexed

end Go.Proofs.YtpgmapjjjpcmfaaGreatDoor
