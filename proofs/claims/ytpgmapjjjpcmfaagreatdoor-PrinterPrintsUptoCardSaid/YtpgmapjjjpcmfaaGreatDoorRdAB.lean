/-
  The walks of a reading's start and token.
  The walk of a reading's token.
-/
import Derived.Test.YtpgmapjjjpcmfaaGreatDoorRdAA
namespace Go.Proofs.YtpgmapjjjpcmfaaGreatDoor
open Go.RowKit
open Lx
set_option linter.unusedVariables false
set_option linter.unusedSimpArgs false
set_option maxRecDepth 100000

theorem Body.started {w : World} {B : Nat} {x : Tl} {d : Rd.Decls} {rs : List Rd.Rule} {lev : List Rd.Name} (h : Body w B x d rs lev) (t : Rd.Name) : Body w B { x with st := str t, b := true } { d with start := t, started := true } rs lev :=
  ⟨h.tok, h.skp, h.lvs, rfl, h.rls, h.set_, rfl, h.base⟩
theorem Body.startOf {w : World} {B : Nat} {x : Tl} {d : Rd.Decls} {rs : List Rd.Rule} {lev : List Rd.Name} (h : Body w B x d rs lev) (t : ByteArray) : Body w B { x with st := t } { d with start := bl t } rs lev :=
  ⟨h.tok, h.skp, h.lvs, rfl, h.rls, h.set_, h.b, h.base⟩

set_option maxHeartbeats 2000000 in
theorem start_any (B g m : Nat) (d : Rd.Decls) (ms : List Mk) (w : World) (hr : RdAt w B g m d [] (Rd.levelled d) ms) (hne : ms ≠ []) :
    Calls Tryz.prog 136 #[.pointer (some ⟨g, 0, none⟩)] w fun e w' => Told B g m (Rd.start d ms) e w' ∧ Fr B m w w' := by
  obtain ⟨x, hre, hbo, rfl⟩ := hr.ex
  have hB := hr.base
  have HS := Lib.hid hr.small
  obtain ⟨A, cap, hcap, hat, hli⟩ := hre.ex
  have hlt := hat.lt
  have hxb := hbo.b
  have HRE := Lib.hid hre
  have HBO := Lib.hid hbo
  have HAT := Lib.hid hat
  have c7 := hat.cell 7
  simp only [Tl.cells, List.getElem?_toArray, List.getElem?_cons_zero, List.getElem?_cons_succ] at c7
  rw [hxb] at c7
  clear hr hre hbo hat hli hxb
  cases hst : d.started with
  | true =>
    have e : Rd.start d ms = .bad 15 ms := by unfold Rd.start; rw [if_pos hst]
    rw [e]
    rw [hst] at c7
    clear e hst
    go_enter Tryz.func136, Tryz.ntmps136
    go_wp2_with fail
    go_ret
    exact ⟨⟨rfl, x, HRE.out⟩, Fr.refl _ _ _⟩
  | false =>
    rw [hst] at c7
    by_cases h1 : (Rd.hd ms.tail).kind = 1
    · have e : Rd.start d ms = .ok { d with start := (Rd.hd ms.tail).text, started := true } ms.tail.tail := by unfold Rd.start; rw [if_neg (by simp [hst]), if_pos h1]
      rw [e]
      have V := Lib.hid (takeV_yes h1)
      have R := Lib.hid (takeR_yes h1)
      have hs9 : Small { d with start := (Rd.hd ms.tail).text, started := true } [] (Rd.levelled d) ms.tail.tail := by
        obtain ⟨q1, q2, q3, q4, q5⟩ := HS.out
        refine ⟨q1, q2, q3, q4, by simp; omega⟩
      have HS9 := Lib.hid hs9
      clear e hs9 h1 hst
      generalize (Rd.hd ms.tail).text = T at V HS9 ⊢
      go_enter Tryz.func136, Tryz.ntmps136
      go_wp2_with fail
      refine (next_any g x ms _ HRE.out hne).mono ?_
      rintro e w1 ⟨rfl, hr1, hg1⟩
      have HR1 := Lib.hid hr1
      have HG1 := Lib.hid hg1
      clear hr1 hg1 c7
      go_wp2_with fail
      refine (take_any 1 (by omega) g x ms.tail _ HR1.out).mono ?_
      rw [V.out, R.out]
      rintro e w2 ⟨rfl, hr2, hg2⟩
      have hgg := grown_trans HG1.out hg2
      have HB2 := Lib.hid (HBO.out.far HAT.out hgg)
      have HF2 := Lib.hid (Fr.at_ (m := x.m) HAT.out hgg hB)
      have HR2 := Lib.hid hr2
      obtain ⟨A3, cap3, hcap3, hat3, hli3⟩ := hr2.ex
      have HAT3 := Lib.hid hat3
      have HLI3 := Lib.hid hli3
      have c0 := hat3.cell 0
      have c1 := hat3.cell 1
      have c2 := hat3.cell 2
      have c3 := hat3.cell 3
      have c4 := hat3.cell 4
      have c5 := hat3.cell 5
      have c6 := hat3.cell 6
      have c7 := hat3.cell 7
      have cf := hat3.frozen
      simp only [Tl.cells, List.getElem?_toArray, List.getElem?_cons_zero, List.getElem?_cons_succ] at c0 c1 c2 c3 c4 c5 c6 c7
      clear hr2 hg2 hgg hat3 hli3
      go_wp2_with fail
      go_ret
      have hg3 : w2.grownBy ((w2.setCell ⟨g, 4, none⟩ (.string (str T))).setCell ⟨g, 7, none⟩ (.bool true)) (some g) := grown_set (grown_set (grown_refl _ _) 4 _) 7 _
      refine ⟨⟨rfl, ⟨{ x with st := str T, b := true }, ⟨HR2.out.len, A3, cap3, hcap3, ?_, HLI3.out.stay (Stay.far HAT3.out (by decide) hg3)⟩, (HB2.out.far HAT3.out hg3).started T, rfl⟩, hB, HS9.out⟩, HF2.out.trans (Fr.at_ HAT3.out hg3 hB)⟩
      have := (HAT3.out.set 4 (.string (str T))).set 7 (.bool true)
      simpa [Tl.cells] using this
    · have e : Rd.start d ms = .bad 14 ms.tail := by unfold Rd.start; rw [if_neg (by simp [hst]), if_neg h1]
      rw [e]
      have V := Lib.hid (takeV_no h1)
      have R := Lib.hid (takeR_no h1)
      clear e h1 hst
      go_enter Tryz.func136, Tryz.ntmps136
      go_wp2_with fail
      refine (next_any g x ms _ HRE.out hne).mono ?_
      rintro e w1 ⟨rfl, hr1, hg1⟩
      have HR1 := Lib.hid hr1
      have HG1 := Lib.hid hg1
      clear hr1 hg1 c7
      go_wp2_with fail
      refine (take_any 1 (by omega) g x ms.tail _ HR1.out).mono ?_
      rw [V.out, R.out]
      rintro e w2 ⟨rfl, hr2, hg2⟩
      have HR2 := Lib.hid hr2
      have HF2 := Lib.hid (Fr.at_ (m := x.m) HAT.out (grown_trans HG1.out hg2) hB)
      clear hr2 hg2
      go_wp2_with fail
      go_ret
      exact ⟨⟨rfl, x, HR2.out⟩, HF2.out⟩

/-! ## Is a name a token's? -/

theorem toksV_get : ∀ (l : List Rd.Tok) (i j : Nat) (t : Rd.Tok) (u : Value), l[i]? = some t → j < 4 → t.cells[j]? = some u → (toksV l)[i * 4 + j]? = some u
  | [], i, j, t, u, h, _, _ => by simp at h
  | s :: r, 0, j, t, u, h, hj, hu => by
    simp at h; subst h
    unfold toksV
    rw [List.flatMap_cons, List.getElem?_append_left (by simp [Rd.Tok.cells]; omega)]
    simpa using hu
  | s :: r, i + 1, j, t, u, h, hj, hu => by
    have ih := toksV_get r i j t u (by simpa using h) hj hu
    unfold toksV at *
    rw [List.flatMap_cons, List.getElem?_append_right (by simp [Rd.Tok.cells]; omega)]
    have e : (i + 1) * 4 + j - s.cells.length = i * 4 + j := by simp [Rd.Tok.cells]; omega
    rw [e, ih]

theorem named_any (t : Rd.Tok) (T : Rd.Name) (gm : Nat) (w : World) (hgm : gm < w.heap.size) (hc : w.cell? ⟨gm, 1, none⟩ = some (.string (str T))) :
    Calls Tryz.prog 142 #[.agg t.cells.toArray, .pointer (some ⟨gm, 0, none⟩)] w fun e w' => e = .returned (.bool (t.name == T)) ∧ Below w.heap.size w w' := by
  rw [← str_same]
  simp only [Rd.Tok.cells, List.toArray]
  go_enter Tryz.func142, Tryz.ntmps142
  go_wp2_with fail
  go_ret
  exact ⟨rfl, (Below.refl _ _).alloc (Nat.le_refl _) _⟩

/-- The index tells whether one was found. -/
def IdxTells (k : Int) (b : Bool) : Prop := if b = true then 0 ≤ k else k = -1
set_option maxHeartbeats 2000000 in
theorem indexFunc_any (toks : List Rd.Tok) (T : Rd.Name) (gm : Nat) (A : Option Addr) (cap : Nat) (w : World) (hl : Lie w 41 A (toksV toks)) (hn : toks.length ≤ 20) (hgm : gm < w.heap.size) (hc : w.cell? ⟨gm, 1, none⟩ = some (.string (str T))) :
    Calls Tryz.prog 84 #[.slice A toks.length cap, .func (.func 142) #[] #[.pointer (some ⟨gm, 0, none⟩)]] w fun e w' =>
      (∃ k : Int, e = .returned (.int .i64 k) ∧ IdxTells k (toks.any fun t => t.name == T)) ∧ Below w.heap.size w w' := by
  have HL := Lib.hid hl
  clear hl
  go_enter Tryz.func84, Tryz.ntmps84
  go_wp2_with fail
  go_loopw [8] (fun i wr => ∃ k : Nat, k ≤ toks.length ∧ i = .int .i64 (k : Int) ∧ ((toks.take k).any fun t => t.name == T) = false ∧ Below w.heap.size w wr) (fun i _ => toks.length - (intOf i).toNat)
  case atStart => exact ⟨0, by omega, rfl, by simp, Below.refl _ _⟩
  case round =>
    obtain ⟨k, hk, rfl, hno, hb⟩ := hrel
    have HNO := Lib.hid hno
    have HB := Lib.hid hb
    clear hno hb
    by_cases hlt : k < toks.length
    · obtain ⟨t, ht⟩ : ∃ t, toks[k]? = some t := ⟨_, List.getElem?_eq_getElem hlt⟩
      obtain ⟨b, o, rfl, hbl, hcell⟩ := (HL.out.below HB.out).cell (fun e => by
        have h1 := toksV_get toks k 0 t _ ht (by omega) (show t.cells[0]? = some (.string (str t.name)) from rfl)
        rw [e] at h1; simp at h1)
      have c0 : wr.cell? ⟨b, o + k * 4, none⟩ = some (.string (str t.name)) := hcell _ _ (toksV_get toks k 0 t _ ht (by omega) rfl)
      have c1 : wr.cell? ⟨b, o + k * 4 + 1, none⟩ = some (.string (str t.pat.text)) := by rw [Nat.add_assoc]; exact hcell _ _ (toksV_get toks k 1 t _ ht (by omega) rfl)
      have c2 : wr.cell? ⟨b, o + k * 4 + 2, none⟩ = some (.string (str t.pat.set)) := by rw [Nat.add_assoc]; exact hcell _ _ (toksV_get toks k 2 t _ ht (by omega) rfl)
      have c3 : wr.cell? ⟨b, o + k * 4 + 3, none⟩ = some (.bool t.pat.many) := by rw [Nat.add_assoc]; exact hcell _ _ (toksV_get toks k 3 t _ ht (by omega) rfl)
      have hgm2 : gm < wr.heap.size := by have := HB.out.size; omega
      have hcm : wr.cell? ⟨gm, 1, none⟩ = some (.string (str T)) := (HB.out.cell (p := ⟨gm, 1, none⟩) hgm).trans hc
      have hki : (k : Int) < (toks.length : Int) := by omega
      have hk0 : (0 : Int) ≤ (k : Int) := by omega
      clear hcell
      cases hq : (t.name == T) with
      | true =>
        have hany : (toks.any fun t => t.name == T) = true := by
          rw [List.any_eq_true]
          exact ⟨t, List.mem_of_getElem? ht, hq⟩
        have HANY := Lib.hid hany
        have HT := Lib.hid ht
        have HQ := Lib.hid hq
        clear hany ht hq
        go_wp2_with fail
        refine (named_any t T gm _ hgm2 hcm).mono ?_
        rw [HQ.out]
        rintro e w2 ⟨rfl, hb2⟩
        go_wp2_with fail
        go_ret
        exact ⟨⟨_, rfl, by unfold IdxTells; rw [if_pos HANY.out]; omega⟩, HB.out.trans (hb2.mono HB.out.size)⟩
      | false =>
        have HT := Lib.hid ht
        have HQ := Lib.hid hq
        clear ht hq
        go_wp2_with fail
        refine (named_any t T gm _ hgm2 hcm).mono ?_
        rw [HQ.out]
        rintro e w2 ⟨rfl, hb2⟩
        go_wp2_with fail
        go_roundw
        case rel =>
          refine ⟨k + 1, by omega, by go_num, ?_, HB.out.trans (hb2.mono HB.out.size)⟩
          rw [List.take_add_one, HT.out, List.any_append, HNO.out]
          simp [HQ.out]
        case measure => simp [intOf]; omega
    · obtain rfl : toks.length = k := by omega
      have hno2 : (toks.any fun t => t.name == T) = false := by
        have := HNO.out
        rwa [List.take_length] at this
      have HNO2 := Lib.hid hno2
      clear hno2
      go_wp2_with fail
      go_ret
      exact ⟨⟨_, rfl, by unfold IdxTells; rw [if_neg (by simp [HNO2.out])]⟩, HB.out⟩

theorem containsFunc_any (toks : List Rd.Tok) (T : Rd.Name) (gm : Nat) (A : Option Addr) (cap : Nat) (w : World) (hl : Lie w 41 A (toksV toks)) (hn : toks.length ≤ 20) (hgm : gm < w.heap.size) (hc : w.cell? ⟨gm, 1, none⟩ = some (.string (str T))) :
    Calls Tryz.prog 60 #[.slice A toks.length cap, .func (.func 142) #[] #[.pointer (some ⟨gm, 0, none⟩)]] w fun e w' =>
      e = .returned (.bool (toks.any fun t => t.name == T)) ∧ Below w.heap.size w w' := by
  have HL := Lib.hid hl
  clear hl
  cases hq : (toks.any fun t => t.name == T) with
  | true =>
    have HQ := Lib.hid hq
    clear hq
    go_enter Tryz.func60, Tryz.ntmps60
    go_wp2_with fail
    refine (indexFunc_any toks T gm A cap w HL.out hn hgm hc).mono ?_
    rw [HQ.out]
    rintro e w1 ⟨⟨k, rfl, hk⟩, hb⟩
    have hk : 0 ≤ k := hk
    go_wp2_with fail
    go_ret
    exact ⟨rfl, hb⟩
  | false =>
    have HQ := Lib.hid hq
    clear hq
    go_enter Tryz.func60, Tryz.ntmps60
    go_wp2_with fail
    refine (indexFunc_any toks T gm A cap w HL.out hn hgm hc).mono ?_
    rw [HQ.out]
    rintro e w1 ⟨⟨k, rfl, hk⟩, hb⟩
    obtain rfl : k = -1 := hk
    go_wp2_with fail
    go_ret
    exact ⟨rfl, hb⟩

end Go.Proofs.YtpgmapjjjpcmfaaGreatDoor

namespace Go.Proofs.YtpgmapjjjpcmfaaGreatDoor
open Go.RowKit
open Lx
set_option linter.unusedVariables false
set_option linter.unusedSimpArgs false
set_option maxRecDepth 100000

theorem Body.toks_ {w w' : World} {B : Nat} {x : Tl} {d : Rd.Decls} {rs : List Rd.Rule} {lev : List Rd.Name} (h : Body w B x d rs lev) {v' : Value} {t : Rd.Tok} (ho : w'.ownsRow B 41 4 v' (d.toks.length + 1) (toksV d.toks ++ t.cells)) (hg : w.grownBy w' x.t.ownBlock) :
    Body w' B { x with t := v' } { d with toks := d.toks ++ [t] } rs lev := by
  have hm : HasSet w' x.m lev := h.set_.kept hg (fun e => by
    rcases h.tok.2 with ⟨e1, _⟩ | ⟨g, cap, cur, e1, _, hgg, _⟩
    · rw [e1] at e; simp [Value.ownBlock] at e
    · rw [e1] at e
      simp [Value.ownBlock] at e
      exact h.set_.ne (g := g) (t := _) (cs := cur) hgg e)
  refine ⟨by rw [toksV_snoc, List.length_append]; exact ho, own_stay h.skp (Stay.own h.tok (by decide) hg), ?_, h.st, ?_, hm, h.b, h.base⟩
  · obtain ⟨pl, e, h6, h7⟩ := h.lvs
    exact ⟨pl, e, own_stay h6 (Stay.own h.tok (by decide) hg), fun p hp => (h7 p hp).stay (Stay.own h.tok (by decide) hg)⟩
  · obtain ⟨ql, e, h6, h7⟩ := h.rls
    exact ⟨ql, e, own_stay h6 (Stay.own h.tok (by decide) hg), fun p hp => (h7 p hp).stay (Stay.own h.tok (by decide) hg)⟩

theorem pattern_code {ms : List Mk} {c : Nat} {r : List Mk} (hp : Rd.pattern ms = .bad c r) : c = 14 := by
  unfold Rd.pattern at hp
  repeat' split at hp
  all_goals first
    | (cases hp; done)
    | (cases hp; rfl)

theorem rest_far {w w' : World} {g g' : Nat} {t : TypeId} {cs : Array Value} (h : At w g t cs) (hk : w.grownBy w' (some g')) (hne : g ≠ g') : At w' g t cs := h.grown hk (fun e => hne (by injection e))


set_option maxHeartbeats 4000000 in
theorem token_any (B g m : Nat) (d : Rd.Decls) (ms : List Mk) (w : World) (hr : RdAt w B g m d [] (Rd.levelled d) ms) (hne : ms ≠ []) :
    Calls Tryz.prog 131 #[.pointer (some ⟨g, 0, none⟩)] w fun e w' => Told B g m (Rd.token d ms) e w' ∧ Fr B m w w' := by
  obtain ⟨x, hre, hbo, rfl⟩ := hr.ex
  have hB := hr.base
  have HS := Lib.hid hr.small
  obtain ⟨A, cap, hcap, hat, hli⟩ := hre.ex
  have hlt := hat.lt
  obtain ⟨ao, so, hx⟩ := own_form hbo.tok
  have HRE := Lib.hid hre
  have HBO := Lib.hid hbo
  have HAT := Lib.hid hat
  have HX := Lib.hid hx
  obtain ⟨M, hM⟩ : ∃ M, Rd.hd ms.tail = M := ⟨_, rfl⟩
  have HM := Lib.hid hM
  clear hr hre hbo hat hli hx
  by_cases h1 : M.kind = 1
  · have k1 : ((M.kind : Int) != 1) = false := by rw [bne_eq_false_iff_eq]; omega
    have k2 : (M.kind != 1) = false := by rw [bne_eq_false_iff_eq]; omega
    have hne2 : ms.tail ≠ [] := ne_of_kind (k := 1) (by rw [hM]; exact h1) (by omega)
    cases hany : (d.toks.any fun t => t.name == M.text) with
    | true =>
      have e : Rd.token d ms = .bad 15 ms.tail := by unfold Rd.token; rw [hM, if_neg (by simp [h1]), if_pos hany]
      rw [e]
      have HANY := Lib.hid hany
      clear e hany h1 hM
      go_enter Tryz.func131, Tryz.ntmps131
      go_wp2_with fail
      refine (next_any g x ms _ HRE.out hne).mono ?_
      rintro e w1 ⟨rfl, hr1, hg1⟩
      have HR1 := Lib.hid hr1
      have HG1 := Lib.hid hg1
      have hg1l := hr1.lt
      clear hr1 hg1
      go_wp2_with fail
      refine (here_any g x ms.tail _ HR1.out).mono ?_
      rw [HM.out]
      rintro e w2 ⟨rfl, hb2⟩
      have hs2 := hb2.size
      have HR2 := Lib.hid ((HR1.out.below hb2).alloc (.cells #[.int .i64 (M.kind : Int), .string (str M.text), .int .i64 (M.line : Int), .int .i64 (M.col : Int)] 124))
      have HG2 := Lib.hid (grown_alloc (show w.grownBy w2 (some g) from grown_trans HG1.out ⟨hb2.os, hb2.tape, hb2.output, hb2.size, fun i hi _ => hb2.block i hi⟩) (.cells #[.int .i64 (M.kind : Int), .string (str M.text), .int .i64 (M.line : Int), .int .i64 (M.col : Int)] 124))
      have HM2 := Lib.hid (new_cell w2 M)
      have c1a : ∀ o, (w2.alloc o).cell? ⟨g, 1, none⟩ = some x.t := fun o => by
        obtain ⟨A2, cap2, hcap2, hat2, _⟩ := ((HR1.out.below hb2).alloc o).ex
        have := hat2.cell 1
        simpa only [Tl.cells, List.getElem?_toArray, List.getElem?_cons_zero, List.getElem?_cons_succ] using this
      rw [HX.out] at c1a
      clear hb2
      unfold Mk.val
      go_wp2_with fail
      obtain ⟨w3, hw3⟩ : ∃ w3, w2.alloc (.cells #[.int .i64 (M.kind : Int), .string (str M.text), .int .i64 (M.line : Int), .int .i64 (M.col : Int)] 124) = w3 := ⟨_, rfl⟩
      obtain ⟨gm, hgm⟩ : ∃ gm, w2.heap.size = gm := ⟨_, rfl⟩
      rw [hw3] at HR2 HG2 HM2 ⊢
      rw [hgm] at HM2 ⊢
      have hgn : gm ≠ g := by omega
      clear hw3 hgm hs2 c1a
      have m0 := HM2.out.cell 0
      have m1 := HM2.out.cell 1
      simp only [List.getElem?_toArray, List.getElem?_cons_zero, List.getElem?_cons_succ] at m0 m1
      obtain ⟨A3, cap3, hcap3, hat3, hli3⟩ := HR2.out.ex
      have HO := Lib.hid (HX.out ▸ (HBO.out.far HAT.out HG2.out).tok)
      clear hat3 hli3
      have hn20 : d.toks.length ≤ 20 := HS.out.1
      refine (containsFunc_any d.toks M.text gm ao so _ (Lie.own HO.out) hn20 HM2.out.lt (by simpa using m1)).mono ?_
      rw [HANY.out]
      rintro e w4 ⟨rfl, hb4⟩
      have HR4 := Lib.hid (HR2.out.below hb4)
      have HF4 := Lib.hid ((Fr.at_ (m := x.m) HAT.out HG2.out hB).trans (Fr.of_below hb4 (by have := HG2.out.size; omega)))
      clear hb4
      go_wp2_with fail
      go_ret
      exact ⟨⟨rfl, x, HR4.out⟩, HF4.out⟩
    | false =>
      by_cases h20 : d.toks.length = 20
      · have e : Rd.token d ms = .bad 3 ms.tail := by unfold Rd.token; rw [hM, if_neg (by simp [h1]), if_neg (by simp [hany]), if_pos h20]
        rw [e]
        have HANY := Lib.hid hany
        have H20 := Lib.hid h20
        clear e hany h1 hM h20
        go_enter Tryz.func131, Tryz.ntmps131
        go_wp2_with fail
        refine (next_any g x ms _ HRE.out hne).mono ?_
        rintro e w1 ⟨rfl, hr1, hg1⟩
        have HR1 := Lib.hid hr1
        have HG1 := Lib.hid hg1
        have hg1l := hr1.lt
        clear hr1 hg1
        go_wp2_with fail
        refine (here_any g x ms.tail _ HR1.out).mono ?_
        rw [HM.out]
        rintro e w2 ⟨rfl, hb2⟩
        have hs2 := hb2.size
        have HR2 := Lib.hid ((HR1.out.below hb2).alloc (.cells #[.int .i64 (M.kind : Int), .string (str M.text), .int .i64 (M.line : Int), .int .i64 (M.col : Int)] 124))
        have HG2 := Lib.hid (grown_alloc (show w.grownBy w2 (some g) from grown_trans HG1.out ⟨hb2.os, hb2.tape, hb2.output, hb2.size, fun i hi _ => hb2.block i hi⟩) (.cells #[.int .i64 (M.kind : Int), .string (str M.text), .int .i64 (M.line : Int), .int .i64 (M.col : Int)] 124))
        have HM2 := Lib.hid (new_cell w2 M)
        have c1a : ∀ o, (w2.alloc o).cell? ⟨g, 1, none⟩ = some x.t := fun o => by
          obtain ⟨A2, cap2, hcap2, hat2, _⟩ := ((HR1.out.below hb2).alloc o).ex
          have := hat2.cell 1
          simpa only [Tl.cells, List.getElem?_toArray, List.getElem?_cons_zero, List.getElem?_cons_succ] using this
        rw [HX.out, H20.out] at c1a
        clear hb2
        unfold Mk.val
        go_wp2_with fail
        obtain ⟨w3, hw3⟩ : ∃ w3, w2.alloc (.cells #[.int .i64 (M.kind : Int), .string (str M.text), .int .i64 (M.line : Int), .int .i64 (M.col : Int)] 124) = w3 := ⟨_, rfl⟩
        obtain ⟨gm, hgm⟩ : ∃ gm, w2.heap.size = gm := ⟨_, rfl⟩
        rw [hw3] at HR2 HG2 HM2 ⊢
        rw [hgm] at HM2 ⊢
        have hgn : gm ≠ g := by omega
        clear hw3 hgm hs2 c1a
        have m0 := HM2.out.cell 0
        have m1 := HM2.out.cell 1
        simp only [List.getElem?_toArray, List.getElem?_cons_zero, List.getElem?_cons_succ] at m0 m1
        obtain ⟨A3, cap3, hcap3, hat3, hli3⟩ := HR2.out.ex
        have HO := Lib.hid (HX.out ▸ (HBO.out.far HAT.out HG2.out).tok)
        have HAT3 := Lib.hid hat3
        clear hat3 hli3
        have hn20 : d.toks.length ≤ 20 := HS.out.1
        have hcf := containsFunc_any d.toks M.text gm ao so _ (Lie.own HO.out) hn20 HM2.out.lt (by simpa using m1)
        rw [HANY.out, H20.out] at hcf
        refine hcf.mono ?_
        rintro e w4 ⟨rfl, hb4⟩
        have HR4 := Lib.hid (HR2.out.below hb4)
        have HF4 := Lib.hid ((Fr.at_ (m := x.m) HAT.out HG2.out hB).trans (Fr.of_below hb4 (by have := HG2.out.size; omega)))
        have q1 := (HAT3.out.below hb4 HAT3.out.lt).cell 1
        simp only [Tl.cells, List.getElem?_toArray, List.getElem?_cons_zero, List.getElem?_cons_succ] at q1
        rw [HX.out, H20.out] at q1
        clear hb4
        go_wp2_with fail
        go_ret
        exact ⟨⟨rfl, x, HR4.out⟩, HF4.out⟩
      · obtain ⟨N, hN⟩ : ∃ N, d.toks.length = N := ⟨_, rfl⟩
        have hn4 : ((N : Int) == 20) = false := by rw [beq_eq_false_iff_ne]; omega
        have hn5 : (N == 20) = false := by rw [beq_eq_false_iff_ne]; omega
        have hn20 : N ≤ 20 := by have := HS.out.1; omega
        have HN := Lib.hid hN
        cases hp : Rd.pattern ms.tail.tail with
        | bad c r =>
          have hc : Rd.token d ms = .bad 14 r := by
            unfold Rd.token
            rw [hM, if_neg (by simp [h1]), if_neg (by simp [hany]), if_neg h20, hp, pattern_code hp]
          rw [hc]
          have HP := Lib.hid hp
          have HANY := Lib.hid hany
          clear hc hp hany h1 hM h20 hN
          go_enter Tryz.func131, Tryz.ntmps131
          go_wp2_with fail
          refine (next_any g x ms _ HRE.out hne).mono ?_
          rintro e w1 ⟨rfl, hr1, hg1⟩
          have HR1 := Lib.hid hr1
          have HG1 := Lib.hid hg1
          have hg1l := hr1.lt
          clear hr1 hg1
          go_wp2_with fail
          refine (here_any g x ms.tail _ HR1.out).mono ?_
          rw [HM.out]
          rintro e w2 ⟨rfl, hb2⟩
          have hs2 := hb2.size
          have HR2 := Lib.hid ((HR1.out.below hb2).alloc (.cells #[.int .i64 (M.kind : Int), .string (str M.text), .int .i64 (M.line : Int), .int .i64 (M.col : Int)] 124))
          have HG2 := Lib.hid (grown_alloc (show w.grownBy w2 (some g) from grown_trans HG1.out ⟨hb2.os, hb2.tape, hb2.output, hb2.size, fun i hi _ => hb2.block i hi⟩) (.cells #[.int .i64 (M.kind : Int), .string (str M.text), .int .i64 (M.line : Int), .int .i64 (M.col : Int)] 124))
          have HM2 := Lib.hid (new_cell w2 M)
          have c1a : ∀ o, (w2.alloc o).cell? ⟨g, 1, none⟩ = some x.t := fun o => by
            obtain ⟨A2, cap2, hcap2, hat2, _⟩ := ((HR1.out.below hb2).alloc o).ex
            have := hat2.cell 1
            simpa only [Tl.cells, List.getElem?_toArray, List.getElem?_cons_zero, List.getElem?_cons_succ] using this
          rw [HX.out, HN.out] at c1a
          clear hb2
          unfold Mk.val
          go_wp2_with fail
          obtain ⟨w3, hw3⟩ : ∃ w3, w2.alloc (.cells #[.int .i64 (M.kind : Int), .string (str M.text), .int .i64 (M.line : Int), .int .i64 (M.col : Int)] 124) = w3 := ⟨_, rfl⟩
          obtain ⟨gm, hgm⟩ : ∃ gm, w2.heap.size = gm := ⟨_, rfl⟩
          rw [hw3] at HR2 HG2 HM2 ⊢
          rw [hgm] at HM2 ⊢
          have hgn : gm ≠ g := by omega
          clear hw3 hgm hs2 c1a
          have m0 := HM2.out.cell 0
          have m1 := HM2.out.cell 1
          simp only [List.getElem?_toArray, List.getElem?_cons_zero, List.getElem?_cons_succ] at m0 m1
          obtain ⟨A3, cap3, hcap3, hat3, hli3⟩ := HR2.out.ex
          have HO := Lib.hid (HX.out ▸ (HBO.out.far HAT.out HG2.out).tok)
          have HAT3 := Lib.hid hat3
          clear hat3 hli3
          have hcf := containsFunc_any d.toks M.text gm ao so _ (Lie.own HO.out) (by rw [HN.out]; exact hn20) HM2.out.lt (by simpa using m1)
          rw [HANY.out, HN.out] at hcf
          refine hcf.mono ?_
          rintro e w4 ⟨rfl, hb4⟩
          have HR4 := Lib.hid (HR2.out.below hb4)
          have HF4 := Lib.hid ((Fr.at_ (m := x.m) HAT.out HG2.out hB).trans (Fr.of_below hb4 (by have := HG2.out.size; omega)))
          have HAT4 := Lib.hid (HAT3.out.below hb4 HAT3.out.lt)
          have q1 := HAT4.out.cell 1
          simp only [Tl.cells, List.getElem?_toArray, List.getElem?_cons_zero, List.getElem?_cons_succ] at q1
          rw [HX.out, HN.out] at q1
          clear hb4 hcf
          go_wp2_with fail
          refine (next_any g x ms.tail _ HR4.out hne2).mono ?_
          rintro e w5 ⟨rfl, hr5, hg5⟩
          have HR5 := Lib.hid hr5
          have HG5 := Lib.hid hg5
          clear hr5 hg5 q1
          go_wp2_with fail
          refine (pattern_any g x ms.tail.tail _ HR5.out).mono ?_
          rw [HP.out]
          rintro e w6 ⟨rfl, hr6, hg6⟩
          have HR6 := Lib.hid hr6
          have HF6 := Lib.hid (HF4.out.trans (Fr.at_ HAT4.out (grown_trans HG5.out hg6) hB))
          have hs6 : B ≤ w6.heap.size := by have := HR6.out.lt; omega
          clear hr6 hg6
          simp only [Rd.Res.two, patV, noPat]
          go_wp2_with fail
          go_ret
          exact ⟨⟨rfl, x, HR6.out.alloc _⟩, HF6.out.alloc hs6 _⟩
        | ok p r =>
          have he : Rd.token d ms = .ok { d with toks := d.toks ++ [⟨M.text, p⟩] } r := by
            unfold Rd.token
            rw [hM, if_neg (by simp [h1]), if_neg (by simp [hany]), if_neg h20, hp]
          rw [he]
          have hs9 : Small { d with toks := d.toks ++ [⟨M.text, p⟩] } [] (Rd.levelled d) r := by
            have h1 := Rd.pattern_less ms.tail.tail
            rw [hp] at h1
            obtain ⟨q1, q2, q3, q4, q5⟩ := HS.out
            simp only [Rd.Res.Less, List.length_tail] at h1
            refine ⟨by simp; omega, q2, q3, q4, by omega⟩
          have HS9 := Lib.hid hs9
          have HP := Lib.hid hp
          have HANY := Lib.hid hany
          clear he hp hany h1 hM h20 hN hs9
          obtain ⟨i0, hi, hz0, hz1, hz2⟩ := info_parts tokinfo
          go_enter Tryz.func131, Tryz.ntmps131
          go_wp2_with fail
          refine (next_any g x ms _ HRE.out hne).mono ?_
          rintro e w1 ⟨rfl, hr1, hg1⟩
          have HR1 := Lib.hid hr1
          have HG1 := Lib.hid hg1
          have hg1l := hr1.lt
          clear hr1 hg1
          go_wp2_with fail
          refine (here_any g x ms.tail _ HR1.out).mono ?_
          rw [HM.out]
          rintro e w2 ⟨rfl, hb2⟩
          have hs2 := hb2.size
          have HR2 := Lib.hid ((HR1.out.below hb2).alloc (.cells #[.int .i64 (M.kind : Int), .string (str M.text), .int .i64 (M.line : Int), .int .i64 (M.col : Int)] 124))
          have HG2 := Lib.hid (grown_alloc (show w.grownBy w2 (some g) from grown_trans HG1.out ⟨hb2.os, hb2.tape, hb2.output, hb2.size, fun i hi _ => hb2.block i hi⟩) (.cells #[.int .i64 (M.kind : Int), .string (str M.text), .int .i64 (M.line : Int), .int .i64 (M.col : Int)] 124))
          have HM2 := Lib.hid (new_cell w2 M)
          have c1a : ∀ o, (w2.alloc o).cell? ⟨g, 1, none⟩ = some x.t := fun o => by
            obtain ⟨A2, cap2, hcap2, hat2, _⟩ := ((HR1.out.below hb2).alloc o).ex
            have := hat2.cell 1
            simpa only [Tl.cells, List.getElem?_toArray, List.getElem?_cons_zero, List.getElem?_cons_succ] using this
          rw [HX.out, HN.out] at c1a
          clear hb2
          unfold Mk.val
          go_wp2_with fail
          obtain ⟨w3, hw3⟩ : ∃ w3, w2.alloc (.cells #[.int .i64 (M.kind : Int), .string (str M.text), .int .i64 (M.line : Int), .int .i64 (M.col : Int)] 124) = w3 := ⟨_, rfl⟩
          obtain ⟨gm, hgm⟩ : ∃ gm, w2.heap.size = gm := ⟨_, rfl⟩
          rw [hw3] at HR2 HG2 HM2 ⊢
          rw [hgm] at HM2 ⊢
          have hgn : gm ≠ g := by omega
          clear hw3 hgm hs2 c1a
          have m0 := HM2.out.cell 0
          have m1 := HM2.out.cell 1
          simp only [List.getElem?_toArray, List.getElem?_cons_zero, List.getElem?_cons_succ] at m0 m1
          obtain ⟨A3, cap3, hcap3, hat3, hli3⟩ := HR2.out.ex
          have HO := Lib.hid (HX.out ▸ (HBO.out.far HAT.out HG2.out).tok)
          have HAT3 := Lib.hid hat3
          clear hat3 hli3
          have hcf := containsFunc_any d.toks M.text gm ao so _ (Lie.own HO.out) (by rw [HN.out]; exact hn20) HM2.out.lt (by simpa using m1)
          rw [HANY.out, HN.out] at hcf
          refine hcf.mono ?_
          rintro e w4 ⟨rfl, hb4⟩
          have HR4 := Lib.hid (HR2.out.below hb4)
          have HF4 := Lib.hid ((Fr.at_ (m := x.m) HAT.out HG2.out hB).trans (Fr.of_below hb4 (by have := HG2.out.size; omega)))
          have HAT4 := Lib.hid (HAT3.out.below hb4 HAT3.out.lt)
          have HM4 := Lib.hid (HM2.out.below hb4 HM2.out.lt)
          have HB4 := Lib.hid ((HBO.out.far HAT.out HG2.out).below hb4)
          have q1 := HAT4.out.cell 1
          simp only [Tl.cells, List.getElem?_toArray, List.getElem?_cons_zero, List.getElem?_cons_succ] at q1
          rw [HX.out, HN.out] at q1
          clear hb4 hcf m0 m1
          go_wp2_with fail
          refine (next_any g x ms.tail _ HR4.out hne2).mono ?_
          rintro e w5 ⟨rfl, hr5, hg5⟩
          have HR5 := Lib.hid hr5
          have HG5 := Lib.hid hg5
          clear hr5 hg5 q1
          go_wp2_with fail
          refine (pattern_any g x ms.tail.tail _ HR5.out).mono ?_
          rw [HP.out]
          rintro e w6 ⟨rfl, hr6, hg6⟩
          have hgg := grown_trans HG5.out hg6
          have hs6 : B ≤ w6.heap.size := by have := hr6.lt; omega
          have HR6 := Lib.hid (hr6.alloc (.cells #[.string (str p.text), .string (str p.set), .bool p.many] 39))
          have HB6 := Lib.hid ((HB4.out.far HAT4.out hgg).alloc (.cells #[.string (str p.text), .string (str p.set), .bool p.many] 39))
          have HF6 := Lib.hid ((HF4.out.trans (Fr.at_ HAT4.out hgg hB)).alloc hs6 (.cells #[.string (str p.text), .string (str p.set), .bool p.many] 39))
          have HM6 := Lib.hid ((rest_far HM4.out hgg hgn).alloc (.cells #[.string (str p.text), .string (str p.set), .bool p.many] 39))
          have HP6 := Lib.hid (At.new w6 39 #[.string (str p.text), .string (str p.set), .bool p.many])
          clear hr6 hg6 hgg
          simp only [Rd.Res.two, Rd.Res.rest, patV] at HR6 ⊢
          go_wp2_with fail
          obtain ⟨w7, hw7⟩ : ∃ w7, w6.alloc (.cells #[.string (str p.text), .string (str p.set), .bool p.many] 39) = w7 := ⟨_, rfl⟩
          obtain ⟨gp, hgp⟩ : ∃ gp, w6.heap.size = gp := ⟨_, rfl⟩
          rw [hw7] at HR6 HB6 HF6 HP6 HM6 ⊢
          rw [hgp] at HP6 ⊢
          obtain ⟨A7, cap7, hcap7, hat7, hli7⟩ := HR6.out.ex
          have HAT7 := Lib.hid hat7
          have HLI7 := Lib.hid hli7
          have c0 := hat7.cell 0
          have c1 := hat7.cell 1
          have c2 := hat7.cell 2
          have c3 := hat7.cell 3
          have c4 := hat7.cell 4
          have c5 := hat7.cell 5
          have c6 := hat7.cell 6
          have c7 := hat7.cell 7
          have cf := hat7.frozen
          simp only [Tl.cells, List.getElem?_toArray, List.getElem?_cons_zero, List.getElem?_cons_succ] at c0 c1 c2 c3 c4 c5 c6 c7
          rw [HX.out, HN.out] at c1
          have p0 := HP6.out.cell 0
          have p1 := HP6.out.cell 1
          have p2 := HP6.out.cell 2
          have m0 := HM6.out.cell 0
          have m1 := HM6.out.cell 1
          simp only [List.getElem?_toArray, List.getElem?_cons_zero, List.getElem?_cons_succ] at p0 p1 p2 m0 m1
          have hs7 : B ≤ w7.heap.size := by have := HAT7.out.lt; omega
          have hown7 := HB6.out.tok
          rw [HX.out, HN.out] at hown7
          have HO7 := Lib.hid hown7
          have c1a : ∀ o, (w7.alloc o).cell? ⟨g, 1, none⟩ = some (.slice ao N so) := fun o => by
            have := (hat7.alloc o).cell 1
            simp only [Tl.cells, List.getElem?_toArray, List.getElem?_cons_zero, List.getElem?_cons_succ] at this
            rw [this, HX.out, HN.out]
          clear hw7 hgp hat7 hli7 hown7
          go_region_law (refine step_append_own2 rfl _ _ 22 rfl B 41 i0 _ 4 56 Tryz.underlying22 hi hz0 hz1 hz2 rfl (by decide) _ _ _ rfl (HO7.out.drew.alloc _) ⟨w7.heap.size, 0, none⟩ 1 1 (Rd.Tok.cells ⟨M.text, p⟩) rfl rfl (cells_new _ _ _) (by simp [Rd.Tok.cells, Value.oneCell']) (by unfold maxLen; omega) (by omega) (by simp; omega) ?_; intro v' w8 hown8 hg8 hn8; obtain ⟨a8, s8, rfl⟩ := own_form hown8; have hA8 := At.grown (HAT7.out.drew.alloc _) hg8 (fun e => own_apart HO7.out HAT7.out (by decide) e.symm); have q1 := hA8.cell 1; have qf := hA8.frozen; simp only [Tl.cells, List.getElem?_toArray, List.getElem?_cons_zero, List.getElem?_cons_succ] at q1)
          all_goals
            have hg9 : (w7.alloc (.cells #[.string (str M.text), .string (str p.text), .string (str p.set), .bool p.many] 41)).drew.grownBy w8 (Value.slice ao N so).ownBlock := hg8
            have ho7 := HO7.out.alloc (.cells #[.string (str M.text), .string (str p.text), .string (str p.set), .bool p.many] 41)
            have hF8 := ((HF6.out.alloc hs7 (.cells #[.string (str M.text), .string (str p.text), .string (str p.set), .bool p.many] 41)).drew).trans (Fr.own (own_drewN ho7 1) hg9 (Nat.le_refl _) (by simp; omega))
            have hB8 := ((HB6.out.alloc (.cells #[.string (str M.text), .string (str p.text), .string (str p.set), .bool p.many] 41)).drew).toks_ (t := ⟨M.text, p⟩) (by rw [HN.out]; exact hown8) (by rw [HX.out, HN.out]; exact hg9)
            have hL8 := ((HLI7.out.alloc (.cells #[.string (str M.text), .string (str p.text), .string (str p.set), .bool p.many] 41)).drew).stay (Stay.own (own_drewN ho7 1) (by decide) hg9)
            obtain ⟨hE, hF⟩ := store_end (i := 1) (v' := .slice a8 (N + 1) s8) hA8 HR6.out.len hcap7 hL8 hB8 (by simp [Tl.cells]) hB HS9.out
            have HE := Lib.hid hE
            have HF := Lib.hid (hF8.trans (hF _))
            clear hg9 ho7 hF8 hB8 hL8 hE hF hg8 hn8 hown8 hA8
            go_wp2_with fail
            go_ret
            exact ⟨⟨rfl, HE.out⟩, HF.out⟩
  · have e : Rd.token d ms = .bad 14 ms.tail := by unfold Rd.token; rw [hM, if_pos h1]
    rw [e]
    have k1 : ((M.kind : Int) != 1) = true := by rw [bne_iff_ne]; omega
    have k2 : (M.kind != 1) = true := by rw [bne_iff_ne]; omega
    clear e h1 hM
    go_enter Tryz.func131, Tryz.ntmps131
    go_wp2_with fail
    refine (next_any g x ms _ HRE.out hne).mono ?_
    rintro e w1 ⟨rfl, hr1, hg1⟩
    have HR1 := Lib.hid hr1
    have HG1 := Lib.hid hg1
    have hg1l := hr1.lt
    clear hr1 hg1
    go_wp2_with fail
    refine (here_any g x ms.tail _ HR1.out).mono ?_
    rw [HM.out]
    rintro e w2 ⟨rfl, hb2⟩
    have hs2 := hb2.size
    have HR2 := Lib.hid ((HR1.out.below hb2).alloc (.cells #[.int .i64 (M.kind : Int), .string (str M.text), .int .i64 (M.line : Int), .int .i64 (M.col : Int)] 124))
    have HG2 := Lib.hid (grown_alloc (show w.grownBy w2 (some g) from grown_trans HG1.out ⟨hb2.os, hb2.tape, hb2.output, hb2.size, fun i hi _ => hb2.block i hi⟩) (.cells #[.int .i64 (M.kind : Int), .string (str M.text), .int .i64 (M.line : Int), .int .i64 (M.col : Int)] 124))
    have HM2 := Lib.hid (new_cell w2 M)
    have c1a : ∀ o, (w2.alloc o).cell? ⟨g, 1, none⟩ = some x.t := fun o => by
      obtain ⟨A2, cap2, hcap2, hat2, _⟩ := ((HR1.out.below hb2).alloc o).ex
      have := hat2.cell 1
      simpa only [Tl.cells, List.getElem?_toArray, List.getElem?_cons_zero, List.getElem?_cons_succ] using this
    rw [HX.out] at c1a
    clear hb2
    unfold Mk.val
    go_wp2_with fail
    obtain ⟨w3, hw3⟩ : ∃ w3, w2.alloc (.cells #[.int .i64 (M.kind : Int), .string (str M.text), .int .i64 (M.line : Int), .int .i64 (M.col : Int)] 124) = w3 := ⟨_, rfl⟩
    obtain ⟨gm, hgm⟩ : ∃ gm, w2.heap.size = gm := ⟨_, rfl⟩
    rw [hw3] at HR2 HG2 HM2 ⊢
    rw [hgm] at HM2 ⊢
    have hgn : gm ≠ g := by omega
    clear hw3 hgm hs2 c1a
    go_ret
    exact ⟨⟨rfl, x, HR2.out⟩, Fr.at_ HAT.out HG2.out hB⟩

end Go.Proofs.YtpgmapjjjpcmfaaGreatDoor
