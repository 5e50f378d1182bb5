/-
  The walks of a reading's start and token.
-/
import Derived.Test.YtgmihbfikggkjaaDoorRdC
namespace Go.Proofs.YtgmihbfikggkjaaDoor
open Go.RowKit
open Lx
set_option linter.unusedVariables false
set_option linter.unusedSimpArgs false
set_option maxRecDepth 100000

theorem Body.started {w : World} {B : Nat} {x : Tl} {d : Rd.Decls} {rs : List Rd.Rule} {lev : List Rd.Name} (h : Body w B x d rs lev) (t : Rd.Name) : Body w B { x with st := str t, b := true } { d with start := t, started := true } rs lev :=
  ⟨h.tok, h.skp, h.lvs, rfl, h.rls, h.set_, rfl, h.base⟩
theorem Body.startOf {w : World} {B : Nat} {x : Tl} {d : Rd.Decls} {rs : List Rd.Rule} {lev : List Rd.Name} (h : Body w B x d rs lev) (t : ByteArray) : Body w B { x with st := t } { d with start := bl t } rs lev :=
  ⟨h.tok, h.skp, h.lvs, rfl, h.rls, h.set_, h.b, h.base⟩

set_option maxHeartbeats 2000000 in
theorem start_any (B g m : Nat) (d : Rd.Decls) (ms : List Mk) (w : World) (hr : RdAt w B g m d [] (Rd.levelled d) ms) (hne : ms ≠ []) :
    Calls Tryd.prog 92 #[.pointer (some ⟨g, 0, none⟩)] w fun e w' => Told B g m (Rd.start d ms) e w' ∧ Fr B m w w' := by
  obtain ⟨x, hre, hbo, rfl⟩ := hr.ex
  have hB := hr.base
  have HS := Lib.hid hr.small
  obtain ⟨A, cap, hcap, hat, hli⟩ := hre.ex
  have hlt := hat.lt
  have hxb := hbo.b
  have HRE := Lib.hid hre
  have HBO := Lib.hid hbo
  have HAT := Lib.hid hat
  have c7 := hat.cell 7
  simp only [Tl.cells, List.getElem?_toArray, List.getElem?_cons_zero, List.getElem?_cons_succ] at c7
  rw [hxb] at c7
  clear hr hre hbo hat hli hxb
  cases hst : d.started with
  | true =>
    have e : Rd.start d ms = .bad 15 ms := by unfold Rd.start; rw [if_pos hst]
    rw [e]
    rw [hst] at c7
    clear e hst
    go_enter Tryd.func92, Tryd.ntmps92
    go_wp2_with fail
    go_ret
    exact ⟨⟨rfl, x, HRE.out⟩, Fr.refl _ _ _⟩
  | false =>
    rw [hst] at c7
    by_cases h1 : (Rd.hd ms.tail).kind = 1
    · have e : Rd.start d ms = .ok { d with start := (Rd.hd ms.tail).text, started := true } ms.tail.tail := by unfold Rd.start; rw [if_neg (by simp [hst]), if_pos h1]
      rw [e]
      have V := Lib.hid (takeV_yes h1)
      have R := Lib.hid (takeR_yes h1)
      have hs9 : Small { d with start := (Rd.hd ms.tail).text, started := true } [] (Rd.levelled d) ms.tail.tail := by
        obtain ⟨q1, q2, q3, q4, q5⟩ := HS.out
        refine ⟨q1, q2, q3, q4, by simp; omega⟩
      have HS9 := Lib.hid hs9
      clear e hs9 h1 hst
      generalize (Rd.hd ms.tail).text = T at V HS9 ⊢
      go_enter Tryd.func92, Tryd.ntmps92
      go_wp2_with fail
      refine (next_any g x ms _ HRE.out hne).mono ?_
      rintro e w1 ⟨rfl, hr1, hg1⟩
      have HR1 := Lib.hid hr1
      have HG1 := Lib.hid hg1
      clear hr1 hg1 c7
      go_wp2_with fail
      refine (take_any 1 (by omega) g x ms.tail _ HR1.out).mono ?_
      rw [V.out, R.out]
      rintro e w2 ⟨rfl, hr2, hg2⟩
      have hgg := grown_trans HG1.out hg2
      have HB2 := Lib.hid (HBO.out.far HAT.out hgg)
      have HF2 := Lib.hid (Fr.at_ (m := x.m) HAT.out hgg hB)
      have HR2 := Lib.hid hr2
      obtain ⟨A3, cap3, hcap3, hat3, hli3⟩ := hr2.ex
      have HAT3 := Lib.hid hat3
      have HLI3 := Lib.hid hli3
      have c0 := hat3.cell 0
      have c1 := hat3.cell 1
      have c2 := hat3.cell 2
      have c3 := hat3.cell 3
      have c4 := hat3.cell 4
      have c5 := hat3.cell 5
      have c6 := hat3.cell 6
      have c7 := hat3.cell 7
      have cf := hat3.frozen
      simp only [Tl.cells, List.getElem?_toArray, List.getElem?_cons_zero, List.getElem?_cons_succ] at c0 c1 c2 c3 c4 c5 c6 c7
      clear hr2 hg2 hgg hat3 hli3
      go_wp2_with fail
      go_ret
      have hg3 : w2.grownBy ((w2.setCell ⟨g, 4, none⟩ (.string (str T))).setCell ⟨g, 7, none⟩ (.bool true)) (some g) := grown_set (grown_set (grown_refl _ _) 4 _) 7 _
      refine ⟨⟨rfl, ⟨{ x with st := str T, b := true }, ⟨HR2.out.len, A3, cap3, hcap3, ?_, HLI3.out.stay (Stay.far HAT3.out (by decide) hg3)⟩, (HB2.out.far HAT3.out hg3).started T, rfl⟩, hB, HS9.out⟩, HF2.out.trans (Fr.at_ HAT3.out hg3 hB)⟩
      have := (HAT3.out.set 4 (.string (str T))).set 7 (.bool true)
      simpa [Tl.cells] using this
    · have e : Rd.start d ms = .bad 14 ms.tail := by unfold Rd.start; rw [if_neg (by simp [hst]), if_neg h1]
      rw [e]
      have V := Lib.hid (takeV_no h1)
      have R := Lib.hid (takeR_no h1)
      clear e h1 hst
      go_enter Tryd.func92, Tryd.ntmps92
      go_wp2_with fail
      refine (next_any g x ms _ HRE.out hne).mono ?_
      rintro e w1 ⟨rfl, hr1, hg1⟩
      have HR1 := Lib.hid hr1
      have HG1 := Lib.hid hg1
      clear hr1 hg1 c7
      go_wp2_with fail
      refine (take_any 1 (by omega) g x ms.tail _ HR1.out).mono ?_
      rw [V.out, R.out]
      rintro e w2 ⟨rfl, hr2, hg2⟩
      have HR2 := Lib.hid hr2
      have HF2 := Lib.hid (Fr.at_ (m := x.m) HAT.out (grown_trans HG1.out hg2) hB)
      clear hr2 hg2
      go_wp2_with fail
      go_ret
      exact ⟨⟨rfl, x, HR2.out⟩, HF2.out⟩

/-! ## Is a name a token's? -/

theorem toksV_get : ∀ (l : List Rd.Tok) (i j : Nat) (t : Rd.Tok) (u : Value), l[i]? = some t → j < 4 → t.cells[j]? = some u → (toksV l)[i * 4 + j]? = some u
  | [], i, j, t, u, h, _, _ => by simp at h
  | s :: r, 0, j, t, u, h, hj, hu => by
    simp at h; subst h
    unfold toksV
    rw [List.flatMap_cons, List.getElem?_append_left (by simp [Rd.Tok.cells]; omega)]
    simpa using hu
  | s :: r, i + 1, j, t, u, h, hj, hu => by
    have ih := toksV_get r i j t u (by simpa using h) hj hu
    unfold toksV at *
    rw [List.flatMap_cons, List.getElem?_append_right (by simp [Rd.Tok.cells]; omega)]
    have e : (i + 1) * 4 + j - s.cells.length = i * 4 + j := by simp [Rd.Tok.cells]; omega
    rw [e, ih]

theorem named_any (t : Rd.Tok) (T : Rd.Name) (gm : Nat) (w : World) (hgm : gm < w.heap.size) (hc : w.cell? ⟨gm, 1, none⟩ = some (.string (str T))) :
    Calls Tryd.prog 106 #[.agg t.cells.toArray, .pointer (some ⟨gm, 0, none⟩)] w fun e w' => e = .returned (.bool (t.name == T)) ∧ Below w.heap.size w w' := by
  rw [← str_same]
  simp only [Rd.Tok.cells, List.toArray]
  go_enter Tryd.func106, Tryd.ntmps106
  go_wp2_with fail
  go_ret
  exact ⟨rfl, (Below.refl _ _).alloc (Nat.le_refl _) _⟩

/-- The index tells whether one was found. -/
def IdxTells (k : Int) (b : Bool) : Prop := if b = true then 0 ≤ k else k = -1
set_option maxHeartbeats 2000000 in
theorem indexFunc_any (toks : List Rd.Tok) (T : Rd.Name) (gm : Nat) (A : Option Addr) (cap : Nat) (w : World) (hl : Lie w 58 A (toksV toks)) (hn : toks.length ≤ 20) (hgm : gm < w.heap.size) (hc : w.cell? ⟨gm, 1, none⟩ = some (.string (str T))) :
    Calls Tryd.prog 95 #[.slice A toks.length cap, .func (.func 106) #[] #[.pointer (some ⟨gm, 0, none⟩)]] w fun e w' =>
      (∃ k : Int, e = .returned (.int .i64 k) ∧ IdxTells k (toks.any fun t => t.name == T)) ∧ Below w.heap.size w w' := by
  have HL := Lib.hid hl
  clear hl
  go_enter Tryd.func95, Tryd.ntmps95
  go_wp2_with fail
  go_loopw [8] (fun i wr => ∃ k : Nat, k ≤ toks.length ∧ i = .int .i64 (k : Int) ∧ ((toks.take k).any fun t => t.name == T) = false ∧ Below w.heap.size w wr) (fun i _ => toks.length - (intOf i).toNat)
  case atStart => exact ⟨0, by omega, rfl, by simp, Below.refl _ _⟩
  case round =>
    obtain ⟨k, hk, rfl, hno, hb⟩ := hrel
    have HNO := Lib.hid hno
    have HB := Lib.hid hb
    clear hno hb
    by_cases hlt : k < toks.length
    · obtain ⟨t, ht⟩ : ∃ t, toks[k]? = some t := ⟨_, List.getElem?_eq_getElem hlt⟩
      obtain ⟨b, o, rfl, hbl, hcell⟩ := (HL.out.below HB.out).cell (fun e => by
        have h1 := toksV_get toks k 0 t _ ht (by omega) (show t.cells[0]? = some (.string (str t.name)) from rfl)
        rw [e] at h1; simp at h1)
      have c0 : wr.cell? ⟨b, o + k * 4, none⟩ = some (.string (str t.name)) := hcell _ _ (toksV_get toks k 0 t _ ht (by omega) rfl)
      have c1 : wr.cell? ⟨b, o + k * 4 + 1, none⟩ = some (.string (str t.pat.text)) := by rw [Nat.add_assoc]; exact hcell _ _ (toksV_get toks k 1 t _ ht (by omega) rfl)
      have c2 : wr.cell? ⟨b, o + k * 4 + 2, none⟩ = some (.string (str t.pat.set)) := by rw [Nat.add_assoc]; exact hcell _ _ (toksV_get toks k 2 t _ ht (by omega) rfl)
      have c3 : wr.cell? ⟨b, o + k * 4 + 3, none⟩ = some (.bool t.pat.many) := by rw [Nat.add_assoc]; exact hcell _ _ (toksV_get toks k 3 t _ ht (by omega) rfl)
      have hgm2 : gm < wr.heap.size := by have := HB.out.size; omega
      have hcm : wr.cell? ⟨gm, 1, none⟩ = some (.string (str T)) := (HB.out.cell (p := ⟨gm, 1, none⟩) hgm).trans hc
      have hki : (k : Int) < (toks.length : Int) := by omega
      have hk0 : (0 : Int) ≤ (k : Int) := by omega
      clear hcell
      cases hq : (t.name == T) with
      | true =>
        have hany : (toks.any fun t => t.name == T) = true := by
          rw [List.any_eq_true]
          exact ⟨t, List.mem_of_getElem? ht, hq⟩
        have HANY := Lib.hid hany
        have HT := Lib.hid ht
        have HQ := Lib.hid hq
        clear hany ht hq
        go_wp2_with fail
        refine (named_any t T gm _ hgm2 hcm).mono ?_
        rw [HQ.out]
        rintro e w2 ⟨rfl, hb2⟩
        go_wp2_with fail
        go_ret
        exact ⟨⟨_, rfl, by unfold IdxTells; rw [if_pos HANY.out]; omega⟩, HB.out.trans (hb2.mono HB.out.size)⟩
      | false =>
        have HT := Lib.hid ht
        have HQ := Lib.hid hq
        clear ht hq
        go_wp2_with fail
        refine (named_any t T gm _ hgm2 hcm).mono ?_
        rw [HQ.out]
        rintro e w2 ⟨rfl, hb2⟩
        go_wp2_with fail
        go_roundw
        case rel =>
          refine ⟨k + 1, by omega, by go_num, ?_, HB.out.trans (hb2.mono HB.out.size)⟩
          rw [List.take_add_one, HT.out, List.any_append, HNO.out]
          simp [HQ.out]
        case measure => simp [intOf]; omega
    · obtain rfl : toks.length = k := by omega
      have hno2 : (toks.any fun t => t.name == T) = false := by
        have := HNO.out
        rwa [List.take_length] at this
      have HNO2 := Lib.hid hno2
      clear hno2
      go_wp2_with fail
      go_ret
      exact ⟨⟨_, rfl, by unfold IdxTells; rw [if_neg (by simp [HNO2.out])]⟩, HB.out⟩

theorem containsFunc_any (toks : List Rd.Tok) (T : Rd.Name) (gm : Nat) (A : Option Addr) (cap : Nat) (w : World) (hl : Lie w 58 A (toksV toks)) (hn : toks.length ≤ 20) (hgm : gm < w.heap.size) (hc : w.cell? ⟨gm, 1, none⟩ = some (.string (str T))) :
    Calls Tryd.prog 63 #[.slice A toks.length cap, .func (.func 106) #[] #[.pointer (some ⟨gm, 0, none⟩)]] w fun e w' =>
      e = .returned (.bool (toks.any fun t => t.name == T)) ∧ Below w.heap.size w w' := by
  have HL := Lib.hid hl
  clear hl
  cases hq : (toks.any fun t => t.name == T) with
  | true =>
    have HQ := Lib.hid hq
    clear hq
    go_enter Tryd.func63, Tryd.ntmps63
    go_wp2_with fail
    refine (indexFunc_any toks T gm A cap w HL.out hn hgm hc).mono ?_
    rw [HQ.out]
    rintro e w1 ⟨⟨k, rfl, hk⟩, hb⟩
    have hk : 0 ≤ k := hk
    go_wp2_with fail
    go_ret
    exact ⟨rfl, hb⟩
  | false =>
    have HQ := Lib.hid hq
    clear hq
    go_enter Tryd.func63, Tryd.ntmps63
    go_wp2_with fail
    refine (indexFunc_any toks T gm A cap w HL.out hn hgm hc).mono ?_
    rw [HQ.out]
    rintro e w1 ⟨⟨k, rfl, hk⟩, hb⟩
    obtain rfl : k = -1 := hk
    go_wp2_with fail
    go_ret
    exact ⟨rfl, hb⟩

end Go.Proofs.YtgmihbfikggkjaaDoor
