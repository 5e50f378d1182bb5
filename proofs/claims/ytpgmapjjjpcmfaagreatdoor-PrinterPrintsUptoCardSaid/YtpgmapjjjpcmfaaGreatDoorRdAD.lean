/-
  What reads declarations, by words: the walks of declares and of a reading's declarations.
  The walk of a reading's declarations.
  The walks of reader's Marks and Read.
-/
import Derived.Test.YtpgmapjjjpcmfaaGreatDoorRdAB
import Derived.Test.YtpgmapjjjpcmfaaGreatDoorRdAC
namespace Go.Proofs.YtpgmapjjjpcmfaaGreatDoor
open Go.RowKit
open Lx
set_option linter.unusedVariables false
set_option linter.unusedSimpArgs false
set_option maxRecDepth 100000

/-- How a function value without captures reads: its number. -/
def fnElem : Value → Option (DataW Unit × List MemPlace)
  | .func (.func f) a b => if a.size = 0 ∧ b.size = 0 then some (.lit (.int .i64 (f : Int)), []) else none
  | .nilFunc => some (.lit (.int .i64 (-1)), [])
  | _ => none
theorem fnElem_inv {v : Value} {f : Nat} {ps : List MemPlace} (h : fnElem v = some (.lit (.int .i64 (f : Int)), ps)) : v = .func (.func f) #[] #[] := by
  unfold fnElem at h
  split at h
  · rename_i f' a b
    split at h
    · rename_i hab
      simp only [Option.some.injEq, Prod.mk.injEq, DataW.lit.injEq, Lit.int.injEq, true_and] at h
      obtain ⟨h1, _⟩ := h
      have e : f' = f := Int.ofNat_inj.1 h1
      have ea : a = #[] := Array.eq_empty_of_size_eq_zero hab.1
      have eb : b = #[] := Array.eq_empty_of_size_eq_zero hab.2
      rw [e, ea, eb]
    · cases h
  · simp only [Option.some.injEq, Prod.mk.injEq, DataW.lit.injEq, Lit.int.injEq, true_and] at h
    have := h.1; omega
  · cases h
/-- The function that reads a declaration of the word number k. -/
def fnOf : Nat → Int
  | 0 => 131
  | 1 => 132
  | 2 => 133
  | 3 => 134
  | 4 => 135
  | 5 => 136
  | _ => -1

theorem wpList_insert_own {H : Type} {P : Program} (w : World) {ops : Array Oper} {rest : List Oper} {o : Oper} {a : Act} {Q : Exit → Act → World → Prop}
    (hg : o.guard = none) (m x v : Operand) (t : TypeId) (hop : o.op = Op.insert t m x v)
    (k e : TypeId) (K : Go.Maps.Keyed P k) (ht : P.underlying t = some (.map k e)) (R : Value → Option (DataW H × List MemPlace)) (b n : Nat) (D : DataW H)
    (hm : a.eval m = .map (some b)) (hown : w.ownsMap P k R b n D) (hn : n < maxLen) (key val : Value) (kl : Lit) (hx : a.eval x = key) (hv : a.eval v = val) (hkey : keyOf P k key = some kl)
    (d : DataW H) (ps : List MemPlace) (hval : R val = some (d, ps))
    (hK : ∀ w', w'.ownsMap P k R b (n + 1) (D.put kl d) → w.grownBy w' (some b) → wpList P ops Q rest (a.put o.dst undef) w') :
    wpList P ops Q (o :: rest) a w := by
  refine wpList_plain hg fun K' hK' => ?_
  obtain ⟨w', hrun, r1, r2⟩ := hown.update K ht hn hkey hval
  unfold Oper.wp
  simp [execOp, hop, hm, hx, hv, hrun, Result.andThen]
  exact hK' _ _ (hK w' r1 r2)

/-- Block all is the table of what reads declarations. -/
def HasFns (w : World) (all : Nat) : Prop := ∃ D : DataW Unit, w.ownsMap Tryz.prog 9 fnElem all 6 D ∧
  ∀ s : Rd.Name, D.atKey (.string s) (.lit (.int .i64 (-1))) = .lit (.int .i64 (fnOf (Rd.wordNo s))) ∧ Maps.has D (.string s) = decide (Rd.wordNo s < 6)
theorem HasFns.below {w w' : World} {all : Nat} (h : HasFns w all) (hb : Below w.heap.size w w') : HasFns w' all := by
  obtain ⟨D, h1, h2⟩ := h
  exact ⟨D, h1.kept (row := none) ⟨hb.os, hb.tape, hb.output, hb.size, fun i hi _ => hb.block i hi⟩ (by simp), h2⟩
theorem HasFns.fr {w w' : World} {all B m : Nat} (h : HasFns w all) (hf : Fr B m w w') (hne : all ≠ m) : HasFns w' all := by
  obtain ⟨D, ⟨es, c, h1, h3⟩, h2⟩ := h
  exact ⟨D, ⟨es, c, hf.maps all es c hne h1, h3⟩, h2⟩
theorem HasFns.look {w : World} {all : Nat} (h : HasFns w all) (T : Rd.Name) (hT : T.length ≤ 4000) :
    ∃ v ps, (Instr.lookup 148 (.map (some all)) (.string (str T)) true).run Tryz.prog w = .ok (.tuple #[v, .bool (decide (Rd.wordNo T < 6))]) w ∧ fnElem v = some (.lit (.int .i64 (fnOf (Rd.wordNo T))), ps) := by
  obtain ⟨D, h1, h2⟩ := h
  have hkey : keyOf Tryz.prog 9 (.string (str T)) = some (.string T) := Go.WideMaps.keyOf_string_mk Tryz.underlying9 (s := str T) (by
    have : (str T).size = T.length := by rw [← bl_length, bl_str]
    rw [this]; unfold maxLen; omega)
  obtain ⟨v, ps, hrun, hv⟩ := h1.look_ok (Go.Maps.string_keyed Tryz.underlying9) Tryz.underlying148 (z := .nilFunc) (by kernel_rfl) (zd := .lit (.int .i64 (-1))) (zp := []) rfl hkey
  rw [(h2 T).2] at hrun
  rw [(h2 T).1] at hv
  exact ⟨v, ps, hrun, hv⟩

theorem at_put {D : DataW Unit} (hD : Go.Maps.IsMap D) (s t : Rd.Name) (f : Int) (z : DataW Unit) : (D.put (.string t) (.lit (.int .i64 f))).atKey (.string s) z = if s = t then .lit (.int .i64 f) else D.atKey (.string s) z := by
  by_cases e : s = t
  · subst e
    rw [if_pos rfl, Go.Maps.atKey_put_same hD (by simp [WideAt.IsKeyLit])]
  · rw [if_neg e, Go.Maps.atKey_put_other (by simpa using e)]
theorem has_put {D : DataW Unit} (hD : Go.Maps.IsMap D) (s t : Rd.Name) (d : DataW Unit) : Maps.has (D.put (.string t) d) (.string s) = (decide (s = t) || Maps.has D (.string s)) := by
  by_cases e : s = t
  · subst e
    rw [Go.Maps.has_put_same hD (by simp [WideAt.IsKeyLit])]; simp
  · rw [Go.Maps.has_put_other (by simpa using e)]; simp [e]

def fnData : DataW Unit := ((((((DataW.map ([] : List (Lit × DataW Unit))).put (.string [116, 111, 107, 101, 110]) (.lit (.int .i64 (fnOf 0)))).put (.string [115, 107, 105, 112]) (.lit (.int .i64 (fnOf 1)))).put (.string [108, 101, 102, 116]) (.lit (.int .i64 (fnOf 2)))).put (.string [114, 105, 103, 104, 116]) (.lit (.int .i64 (fnOf 3)))).put (.string [110, 111, 110, 97, 115, 115, 111, 99]) (.lit (.int .i64 (fnOf 4)))).put (.string [115, 116, 97, 114, 116]) (.lit (.int .i64 (fnOf 5)))
theorem fnData_tells (s : Rd.Name) : fnData.atKey (.string s) (.lit (.int .i64 (-1))) = .lit (.int .i64 (fnOf (Rd.wordNo s))) ∧ Maps.has fnData (.string s) = decide (Rd.wordNo s < 6) := by
  have m0 : Go.Maps.IsMap (DataW.map ([] : List (Lit × DataW Unit))) := ⟨_, rfl⟩
  have m1 := m0.put (.string [116, 111, 107, 101, 110]) (.lit (.int .i64 (fnOf 0)))
  have m2 := m1.put (.string [115, 107, 105, 112]) (.lit (.int .i64 (fnOf 1)))
  have m3 := m2.put (.string [108, 101, 102, 116]) (.lit (.int .i64 (fnOf 2)))
  have m4 := m3.put (.string [114, 105, 103, 104, 116]) (.lit (.int .i64 (fnOf 3)))
  have m5 := m4.put (.string [110, 111, 110, 97, 115, 115, 111, 99]) (.lit (.int .i64 (fnOf 4)))
  unfold fnData
  rw [at_put m5, at_put m4, at_put m3, at_put m2, at_put m1, at_put m0, has_put m5, has_put m4, has_put m3, has_put m2, has_put m1, has_put m0]
  have z0 : (DataW.map ([] : List (Lit × DataW Unit))).atKey (.string s) (.lit (.int .i64 (-1))) = .lit (.int .i64 (fnOf 6)) := rfl
  have z1 : Maps.has (DataW.map ([] : List (Lit × DataW Unit))) (.string s) = false := rfl
  rw [z0, z1]
  unfold Rd.wordNo
  by_cases h0 : s = [116, 111, 107, 101, 110]
  · subst h0; constructor <;> simp
  · by_cases h1 : s = [115, 107, 105, 112]
    · subst h1; constructor <;> simp
    · by_cases h2 : s = [108, 101, 102, 116]
      · subst h2; constructor <;> simp
      · by_cases h3 : s = [114, 105, 103, 104, 116]
        · subst h3; constructor <;> simp
        · by_cases h4 : s = [110, 111, 110, 97, 115, 115, 111, 99]
          · subst h4; constructor <;> simp
          · by_cases h5 : s = [115, 116, 97, 114, 116]
            · subst h5; constructor <;> simp
            · simp [h0, h1, h2, h3, h4, h5]

set_option maxHeartbeats 2000000 in
theorem declares_any (w : World) :
    Calls Tryz.prog 118 #[] w fun e w' => e = .returned (.map (some w.heap.size)) ∧ HasFns w' w.heap.size ∧ Below w.heap.size w w' := by
  have hmm := @run_makeMap Tryz.prog
  go_enter Tryz.func118, Tryz.ntmps118
  go_wp2_with (refine wpList_insert_own _ rfl _ _ _ 148 rfl 9 151 (Go.Maps.string_keyed Tryz.underlying9) Tryz.underlying148 fnElem w.heap.size 0 _ rfl (World.ownsMap_made _ _ _ _) (by unfold maxLen; omega) _ _ _ rfl rfl (Go.WideMaps.keyOf_string_mk Tryz.underlying9 (by decide)) (.lit (.int .i64 (fnOf 0))) [] rfl ?_)
  intro w1 h1 g1
  go_wp2_with (refine wpList_insert_own _ rfl _ _ _ 148 rfl 9 151 (Go.Maps.string_keyed Tryz.underlying9) Tryz.underlying148 fnElem w.heap.size 1 _ rfl h1 (by unfold maxLen; omega) _ _ _ rfl rfl (Go.WideMaps.keyOf_string_mk Tryz.underlying9 (by decide)) (.lit (.int .i64 (fnOf 1))) [] rfl ?_)
  intro w2 h2 g2
  go_wp2_with (refine wpList_insert_own _ rfl _ _ _ 148 rfl 9 151 (Go.Maps.string_keyed Tryz.underlying9) Tryz.underlying148 fnElem w.heap.size 2 _ rfl h2 (by unfold maxLen; omega) _ _ _ rfl rfl (Go.WideMaps.keyOf_string_mk Tryz.underlying9 (by decide)) (.lit (.int .i64 (fnOf 2))) [] rfl ?_)
  intro w3 h3 g3
  go_wp2_with (refine wpList_insert_own _ rfl _ _ _ 148 rfl 9 151 (Go.Maps.string_keyed Tryz.underlying9) Tryz.underlying148 fnElem w.heap.size 3 _ rfl h3 (by unfold maxLen; omega) _ _ _ rfl rfl (Go.WideMaps.keyOf_string_mk Tryz.underlying9 (by decide)) (.lit (.int .i64 (fnOf 3))) [] rfl ?_)
  intro w4 h4 g4
  go_wp2_with (refine wpList_insert_own _ rfl _ _ _ 148 rfl 9 151 (Go.Maps.string_keyed Tryz.underlying9) Tryz.underlying148 fnElem w.heap.size 4 _ rfl h4 (by unfold maxLen; omega) _ _ _ rfl rfl (Go.WideMaps.keyOf_string_mk Tryz.underlying9 (by decide)) (.lit (.int .i64 (fnOf 4))) [] rfl ?_)
  intro w5 h5 g5
  go_wp2_with (refine wpList_insert_own _ rfl _ _ _ 148 rfl 9 151 (Go.Maps.string_keyed Tryz.underlying9) Tryz.underlying148 fnElem w.heap.size 5 _ rfl h5 (by unfold maxLen; omega) _ _ _ rfl rfl (Go.WideMaps.keyOf_string_mk Tryz.underlying9 (by decide)) (.lit (.int .i64 (fnOf 5))) [] rfl ?_)
  intro w6 h6 g6
  have hb : Below w.heap.size w w6 := ((Below.refl _ _).alloc (Nat.le_refl _) _).grown (grown_trans (grown_trans (grown_trans (grown_trans (grown_trans g1 g2) g3) g4) g5) g6) (by simp) (fun k e => by injection e with e; omega)
  have HB := Lib.hid hb
  have HD := Lib.hid h6
  clear h1 h2 h3 h4 h5 h6 g1 g2 g3 g4 g5 g6 hb hmm
  go_wp2_with fail
  go_ret
  exact ⟨rfl, ⟨fnData, HD.out, fnData_tells⟩, HB.out⟩

theorem decls_word {f : Nat} {d : Rd.Decls} {ms : List Mk} (hf : 0 < f) (h : Rd.isWord [37] (Rd.hd ms) = true) : Rd.decls f d ms = .ok d ms.tail := by
  cases f with
  | zero => omega
  | succ f => unfold Rd.decls; rw [if_pos h]
theorem decls_bad {f c : Nat} {d : Rd.Decls} {ms r : List Mk} (hf : 0 < f) (h : Rd.isWord [37] (Rd.hd ms) = false) (hd : Rd.decl d ms = .bad c r) : Rd.decls f d ms = .bad c r := by
  cases f with
  | zero => omega
  | succ f => unfold Rd.decls; rw [if_neg (by simp [h]), hd]
theorem decls_on {f : Nat} {d d' : Rd.Decls} {ms r : List Mk} (hf : 0 < f) (h : Rd.isWord [37] (Rd.hd ms) = false) (hd : Rd.decl d ms = .ok d' r) : Rd.decls f d ms = Rd.decls (f - 1) d' r := by
  cases f with
  | zero => omega
  | succ f => conv => lhs; unfold Rd.decls
              rw [if_neg (by simp [h]), hd]; rfl
theorem names_code {lev acc : List Rd.Name} {ms : List Mk} {c : Nat} {r : List Mk} : Rd.names lev ms acc = .bad c r → c = 15 := by
  fun_induction Rd.names lev ms acc
  all_goals first
    | (intro h; cases h; done)
    | (intro h; cases h; rfl)
    | (rename_i ih; exact ih)
theorem decl_code {d : Rd.Decls} {ms : List Mk} {c : Nat} {r : List Mk} (h : Rd.decl d ms = .bad c r) : c ≠ 0 := by
  unfold Rd.decl at h
  split at h
  · revert h
    generalize Rd.wordNo _ = k
    intro h
    have hl : ∀ a, Rd.level a d ms = .bad c r → c ≠ 0 := by
      intro a h
      unfold Rd.level at h
      split at h
      · cases h; decide
      · cases hn : Rd.names (Rd.levelled d) ms.tail [] with
        | bad c' r' =>
          rw [hn] at h
          cases h
          rw [names_code hn]; decide
        | ok l r' =>
          rw [hn] at h
          simp only [] at h
          split at h
          · cases h; decide
          · cases h
    match k, h with
    | 0, h =>
      simp only [Rd.declNo] at h
      unfold Rd.token at h
      repeat' split at h
      all_goals first
        | (cases h; done)
        | (cases h; decide)
        | (rename_i hp; cases h; rw [pattern_code hp]; decide)
    | 1, h =>
      simp only [Rd.declNo] at h
      unfold Rd.skip at h
      repeat' split at h
      all_goals first
        | (cases h; done)
        | (cases h; decide)
        | (rename_i hp; cases h; rw [pattern_code hp]; decide)
    | 2, h => exact hl 1 h
    | 3, h => exact hl 2 h
    | 4, h => exact hl 3 h
    | 5, h =>
      simp only [Rd.declNo] at h
      unfold Rd.start at h
      repeat' split at h
      all_goals first
        | (cases h; done)
        | (cases h; decide)
    | _ + 6, h =>
      simp only [Rd.declNo] at h
      cases h; decide
  · cases h; decide

end Go.Proofs.YtpgmapjjjpcmfaaGreatDoor

namespace Go.Proofs.YtpgmapjjjpcmfaaGreatDoor
open Go.RowKit
open Lx
set_option linter.unusedVariables false
set_option linter.unusedSimpArgs false
set_option maxRecDepth 100000


theorem field_text (m : Mk) (w : World) : (Instr.field 124 (.agg #[.int .i64 (m.kind : Int), .string (str m.text), .int .i64 (m.line : Int), .int .i64 (m.col : Int)]) 1).run Tryz.prog w = .ok (.string (str m.text)) w := by kernel_rfl


set_option maxHeartbeats 8000000 in
theorem declarations_any (B g m : Nat) (d : Rd.Decls) (ms : List Mk) (w : World) (hr : RdAt w B g m d [] (Rd.levelled d) ms) :
    Calls Tryz.prog 99 #[.pointer (some ⟨g, 0, none⟩)] w fun e w' => Told B g m (Rd.decls (ms.length + 1) d ms) e w' ∧ Fr B m w w' := by
  obtain ⟨x, hre, hbo, rfl⟩ := hr.ex
  have hB := hr.base
  have HRA := Lib.hid hr
  have hlt := hre.lt
  have hml := hbo.set_.lt
  clear hr hre hbo
  obtain ⟨RES, hRES⟩ : ∃ RES, Rd.decls (ms.length + 1) d ms = RES := ⟨_, rfl⟩
  have HRES := Lib.hid hRES
  clear hRES
  go_enter Tryz.func99, Tryz.ntmps99
  go_wp2_with fail
  refine (declares_any w).mono ?_
  rintro e w1 ⟨rfl, hfn, hb1⟩
  obtain ⟨all, hall⟩ : ∃ all, w.heap.size = all := ⟨_, rfl⟩
  have hneq : all ≠ x.m := by omega
  have HA1 := Lib.hid hfn
  have HR1 := Lib.hid (HRA.out.below hb1)
  have HF1 := Lib.hid (Fr.of_below (m := x.m) hb1 (by omega) (B := B))
  have hBw : B ≤ w.heap.size := by omega
  rw [hall] at HA1 ⊢
  clear hfn hb1 hall
  go_wp2_with fail
  go_loopw [4] (fun _ wr => ∃ (d' : Rd.Decls) (rest : List Mk) (f : Nat), RdAt wr B g x.m d' [] (Rd.levelled d') rest ∧ Rd.decls f d' rest = RES ∧ rest.length < f ∧ HasFns wr all ∧ Fr B x.m w wr) (fun _ wr => restLen wr g)
  case atStart => exact ⟨d, ms, ms.length + 1, HR1.out, HRES.out, by omega, HA1.out, HF1.out⟩
  case round =>
    obtain ⟨d', rest, f, hr, hd, hf, ha, hfr⟩ := hrel
    have HR0 := Lib.hid hr
    have HD := Lib.hid hd
    have HA := Lib.hid ha
    have HFR := Lib.hid hfr
    have hf0 : 0 < f := by omega
    obtain ⟨y, hrest, hbody, hym⟩ := hr.ex
    have HRT := Lib.hid hrest
    have HBY := Lib.hid hbody
    have HYM := Lib.hid hym
    have hsane := hd_sane hrest.len
    obtain ⟨M, hM⟩ : ∃ M, Rd.hd rest = M := ⟨_, rfl⟩
    rw [hM] at hsane
    have HMM := Lib.hid hM
    have hfk := field_kind M
    have hft := field_text M
    have hsr : w.heap.size ≤ wr.heap.size := hfr.below.size
    clear hr hd ha hfr hrest hbody hym
    cases hw : Rd.isWord [37] M with
    | true =>
      have hrne : rest ≠ [] := by
        rintro rfl
        rw [Rd.hd_nil] at hM
        subst hM
        simp [Rd.isWord] at hw
      have HW := Lib.hid hw
      have HDW := Lib.hid (decls_word (d := d') (ms := rest) hf0 (by rw [hM]; exact hw))
      clear hw hM
      go_wp2_with fail
      refine (word_is [37] g y rest _ HRT.out).mono ?_
      rw [HMM.out, HW.out]
      rintro e w2 ⟨rfl, hb2⟩
      have HR2 := Lib.hid (HRT.out.below hb2)
      have HB2 := Lib.hid (HBY.out.below hb2)
      have HF2 := Lib.hid (HFR.out.trans (Fr.of_below hb2 (by omega)))
      clear hb2
      go_wp2_with fail
      refine (next_any g y rest _ HR2.out hrne).mono ?_
      rintro e w3 ⟨rfl, hr3, hg3⟩
      obtain ⟨cs, hat⟩ := HR2.out.at_
      have HF3 := Lib.hid (HF2.out.trans (Fr.at_ hat hg3 hB))
      have HR3 := Lib.hid hr3
      have HB3 := Lib.hid (HB2.out.far hat hg3)
      clear hr3 hg3 hat
      go_wp2_with fail
      go_ret
      refine ⟨?_, HF3.out⟩
      rw [HRES.out, ← HD.out, HDW.out]
      refine ⟨rfl, ⟨y, HR3.out, HB3.out, HYM.out⟩, hB, ?_⟩
      obtain ⟨q1, q2, q3, q4, q5⟩ := HR0.out.small
      exact ⟨q1, q2, q3, q4, by simp; omega⟩
    | false =>
      have HW := Lib.hid hw
      clear hw hM
      go_wp2_with fail
      refine (word_is [37] g y rest _ HRT.out).mono ?_
      rw [HMM.out, HW.out]
      rintro e w2 ⟨rfl, hb2⟩
      have HR2 := Lib.hid (HRT.out.below hb2)
      have HB2 := Lib.hid hb2
      have hs2 := hb2.size
      clear hb2
      go_wp2_with fail
      refine (here_any g y rest _ HR2.out).mono ?_
      rw [HMM.out]
      rintro e w3 ⟨rfl, hb3⟩
      have HR3 := Lib.hid (HR2.out.below hb3)
      have HB3 := Lib.hid (HB2.out.trans (hb3.mono hs2))
      obtain ⟨v, ps, hrun, hv⟩ := (HA.out.below HB3.out).look M.text hsane
      clear hb3
      unfold Mk.val
      go_wp2_with fail
      refine (here_any g y rest _ HR3.out).mono ?_
      rw [HMM.out]
      rintro e w4 ⟨rfl, hb4⟩
      have hb5 := HB3.out.trans (hb4.mono HB3.out.size)
      have HR4 := Lib.hid (HR0.out.below hb5)
      have HF4 := Lib.hid (HFR.out.trans (Fr.of_below hb5 (by omega)))
      have HA4 := Lib.hid (HA.out.below hb5)
      clear hb4 hb5 hrun
      unfold Mk.val
      by_cases h2 : M.kind = 2
      · have k1 : ((M.kind : Int) != 2) = false := by rw [bne_eq_false_iff_eq]; omega
        have k2 : (M.kind != 2) = false := by rw [bne_eq_false_iff_eq]; omega
        have H2 := Lib.hid h2
        have hrne : rest ≠ [] := ne_of_kind (k := 2) (by rw [HMM.out]; exact h2) (by omega)
        clear h2
        obtain ⟨K, hK⟩ : ∃ K, Rd.wordNo M.text = K := ⟨_, rfl⟩
        have HK := Lib.hid hK
        rw [hK] at hv ⊢
        clear hK
        match K, HK, hv with
        | 0, HK, hv =>
          · have hv' := fnElem_inv (f := 131) hv
            have hdd : Rd.decl d' rest = Rd.token d' rest := by unfold Rd.decl; rw [HMM.out, if_pos H2.out, HK.out]; rfl
            have HDD := Lib.hid hdd
            have hkd : decide (((0 : Nat)) < 6) = true := by decide
            subst hv'
            clear hdd hv
            cases hres : Rd.token d' rest with
            | bad c r =>
              have hc0 : c ≠ 0 := decl_code (HDD.out.trans hres)
              have c1 : ((c : Int) != 0) = true := by rw [bne_iff_ne]; omega
              have c2 : (c != 0) = true := by rw [bne_iff_ne]; omega
              have HRS := Lib.hid hres
              have HBD := Lib.hid (show Rd.decls (ms.length + 1) d ms = .bad c r by rw [HRES.out, ← HD.out]; exact decls_bad hf0 (by rw [HMM.out]; exact HW.out) (HDD.out.trans hres))
              clear hres hc0
              go_wp2_with fail
              refine (token_any B g x.m d' rest _ HR4.out hrne).mono ?_
              rw [HRS.out]
              rintro e w5 ⟨⟨rfl, h5⟩, hf5⟩
              have H5 := Lib.hid h5
              have HF5 := Lib.hid (HF4.out.trans hf5)
              clear h5 hf5
              go_wp2_with fail
              go_ret
              refine ⟨?_, HF5.out⟩
              rw [HBD.out]
              exact ⟨rfl, H5.out⟩
            | ok d2 r =>
              have HRS := Lib.hid hres
              have hless := Rd.decl_less d' rest
              rw [HDD.out, hres] at hless
              have hless' : r.length < rest.length := hless
              have HLS := Lib.hid hless'
              have HON := Lib.hid (show Rd.decls (f - 1) d2 r = RES by rw [← HD.out]; exact (decls_on hf0 (by rw [HMM.out]; exact HW.out) (HDD.out.trans hres)).symm)
              clear hres hless hless'
              go_wp2_with fail
              refine (token_any B g x.m d' rest _ HR4.out hrne).mono ?_
              rw [HRS.out]
              rintro e w5 ⟨⟨rfl, h5⟩, hf5⟩
              have H5 := Lib.hid h5
              have HF5 := Lib.hid (HF4.out.trans hf5)
              have HA5 := Lib.hid (HA4.out.fr hf5 hneq)
              clear h5 hf5
              go_wp2_with fail
              go_roundw
              case rel => exact ⟨d2, r, f - 1, H5.out, HON.out, by have := HLS.out; omega, HA5.out, HF5.out⟩
              case measure =>
                obtain ⟨x5, h5, _⟩ := H5.out.ex
                obtain ⟨x4, h4, _⟩ := HR0.out.ex
                rw [h5.count, h4.count]
                exact HLS.out
        | 1, HK, hv =>
          · have hv' := fnElem_inv (f := 132) hv
            have hdd : Rd.decl d' rest = Rd.skip d' rest := by unfold Rd.decl; rw [HMM.out, if_pos H2.out, HK.out]; rfl
            have HDD := Lib.hid hdd
            have hkd : decide (((1 : Nat)) < 6) = true := by decide
            subst hv'
            clear hdd hv
            cases hres : Rd.skip d' rest with
            | bad c r =>
              have hc0 : c ≠ 0 := decl_code (HDD.out.trans hres)
              have c1 : ((c : Int) != 0) = true := by rw [bne_iff_ne]; omega
              have c2 : (c != 0) = true := by rw [bne_iff_ne]; omega
              have HRS := Lib.hid hres
              have HBD := Lib.hid (show Rd.decls (ms.length + 1) d ms = .bad c r by rw [HRES.out, ← HD.out]; exact decls_bad hf0 (by rw [HMM.out]; exact HW.out) (HDD.out.trans hres))
              clear hres hc0
              go_wp2_with fail
              refine (skip_any B g x.m d' rest _ HR4.out hrne).mono ?_
              rw [HRS.out]
              rintro e w5 ⟨⟨rfl, h5⟩, hf5⟩
              have H5 := Lib.hid h5
              have HF5 := Lib.hid (HF4.out.trans hf5)
              clear h5 hf5
              go_wp2_with fail
              go_ret
              refine ⟨?_, HF5.out⟩
              rw [HBD.out]
              exact ⟨rfl, H5.out⟩
            | ok d2 r =>
              have HRS := Lib.hid hres
              have hless := Rd.decl_less d' rest
              rw [HDD.out, hres] at hless
              have hless' : r.length < rest.length := hless
              have HLS := Lib.hid hless'
              have HON := Lib.hid (show Rd.decls (f - 1) d2 r = RES by rw [← HD.out]; exact (decls_on hf0 (by rw [HMM.out]; exact HW.out) (HDD.out.trans hres)).symm)
              clear hres hless hless'
              go_wp2_with fail
              refine (skip_any B g x.m d' rest _ HR4.out hrne).mono ?_
              rw [HRS.out]
              rintro e w5 ⟨⟨rfl, h5⟩, hf5⟩
              have H5 := Lib.hid h5
              have HF5 := Lib.hid (HF4.out.trans hf5)
              have HA5 := Lib.hid (HA4.out.fr hf5 hneq)
              clear h5 hf5
              go_wp2_with fail
              go_roundw
              case rel => exact ⟨d2, r, f - 1, H5.out, HON.out, by have := HLS.out; omega, HA5.out, HF5.out⟩
              case measure =>
                obtain ⟨x5, h5, _⟩ := H5.out.ex
                obtain ⟨x4, h4, _⟩ := HR0.out.ex
                rw [h5.count, h4.count]
                exact HLS.out
        | 2, HK, hv =>
          · have hv' := fnElem_inv (f := 133) hv
            have hdd : Rd.decl d' rest = Rd.level 1 d' rest := by unfold Rd.decl; rw [HMM.out, if_pos H2.out, HK.out]; rfl
            have HDD := Lib.hid hdd
            have hkd : decide (((2 : Nat)) < 6) = true := by decide
            subst hv'
            clear hdd hv
            cases hres : Rd.level 1 d' rest with
            | bad c r =>
              have hc0 : c ≠ 0 := decl_code (HDD.out.trans hres)
              have c1 : ((c : Int) != 0) = true := by rw [bne_iff_ne]; omega
              have c2 : (c != 0) = true := by rw [bne_iff_ne]; omega
              have HRS := Lib.hid hres
              have HBD := Lib.hid (show Rd.decls (ms.length + 1) d ms = .bad c r by rw [HRES.out, ← HD.out]; exact decls_bad hf0 (by rw [HMM.out]; exact HW.out) (HDD.out.trans hres))
              clear hres hc0
              go_wp2_with fail
              refine (left_any B g x.m d' rest _ HR4.out hrne).mono ?_
              rw [HRS.out]
              rintro e w5 ⟨⟨rfl, h5⟩, hf5⟩
              have H5 := Lib.hid h5
              have HF5 := Lib.hid (HF4.out.trans hf5)
              clear h5 hf5
              go_wp2_with fail
              go_ret
              refine ⟨?_, HF5.out⟩
              rw [HBD.out]
              exact ⟨rfl, H5.out⟩
            | ok d2 r =>
              have HRS := Lib.hid hres
              have hless := Rd.decl_less d' rest
              rw [HDD.out, hres] at hless
              have hless' : r.length < rest.length := hless
              have HLS := Lib.hid hless'
              have HON := Lib.hid (show Rd.decls (f - 1) d2 r = RES by rw [← HD.out]; exact (decls_on hf0 (by rw [HMM.out]; exact HW.out) (HDD.out.trans hres)).symm)
              clear hres hless hless'
              go_wp2_with fail
              refine (left_any B g x.m d' rest _ HR4.out hrne).mono ?_
              rw [HRS.out]
              rintro e w5 ⟨⟨rfl, h5⟩, hf5⟩
              have H5 := Lib.hid h5
              have HF5 := Lib.hid (HF4.out.trans hf5)
              have HA5 := Lib.hid (HA4.out.fr hf5 hneq)
              clear h5 hf5
              go_wp2_with fail
              go_roundw
              case rel => exact ⟨d2, r, f - 1, H5.out, HON.out, by have := HLS.out; omega, HA5.out, HF5.out⟩
              case measure =>
                obtain ⟨x5, h5, _⟩ := H5.out.ex
                obtain ⟨x4, h4, _⟩ := HR0.out.ex
                rw [h5.count, h4.count]
                exact HLS.out
        | 3, HK, hv =>
          · have hv' := fnElem_inv (f := 134) hv
            have hdd : Rd.decl d' rest = Rd.level 2 d' rest := by unfold Rd.decl; rw [HMM.out, if_pos H2.out, HK.out]; rfl
            have HDD := Lib.hid hdd
            have hkd : decide (((3 : Nat)) < 6) = true := by decide
            subst hv'
            clear hdd hv
            cases hres : Rd.level 2 d' rest with
            | bad c r =>
              have hc0 : c ≠ 0 := decl_code (HDD.out.trans hres)
              have c1 : ((c : Int) != 0) = true := by rw [bne_iff_ne]; omega
              have c2 : (c != 0) = true := by rw [bne_iff_ne]; omega
              have HRS := Lib.hid hres
              have HBD := Lib.hid (show Rd.decls (ms.length + 1) d ms = .bad c r by rw [HRES.out, ← HD.out]; exact decls_bad hf0 (by rw [HMM.out]; exact HW.out) (HDD.out.trans hres))
              clear hres hc0
              go_wp2_with fail
              refine (right_any B g x.m d' rest _ HR4.out hrne).mono ?_
              rw [HRS.out]
              rintro e w5 ⟨⟨rfl, h5⟩, hf5⟩
              have H5 := Lib.hid h5
              have HF5 := Lib.hid (HF4.out.trans hf5)
              clear h5 hf5
              go_wp2_with fail
              go_ret
              refine ⟨?_, HF5.out⟩
              rw [HBD.out]
              exact ⟨rfl, H5.out⟩
            | ok d2 r =>
              have HRS := Lib.hid hres
              have hless := Rd.decl_less d' rest
              rw [HDD.out, hres] at hless
              have hless' : r.length < rest.length := hless
              have HLS := Lib.hid hless'
              have HON := Lib.hid (show Rd.decls (f - 1) d2 r = RES by rw [← HD.out]; exact (decls_on hf0 (by rw [HMM.out]; exact HW.out) (HDD.out.trans hres)).symm)
              clear hres hless hless'
              go_wp2_with fail
              refine (right_any B g x.m d' rest _ HR4.out hrne).mono ?_
              rw [HRS.out]
              rintro e w5 ⟨⟨rfl, h5⟩, hf5⟩
              have H5 := Lib.hid h5
              have HF5 := Lib.hid (HF4.out.trans hf5)
              have HA5 := Lib.hid (HA4.out.fr hf5 hneq)
              clear h5 hf5
              go_wp2_with fail
              go_roundw
              case rel => exact ⟨d2, r, f - 1, H5.out, HON.out, by have := HLS.out; omega, HA5.out, HF5.out⟩
              case measure =>
                obtain ⟨x5, h5, _⟩ := H5.out.ex
                obtain ⟨x4, h4, _⟩ := HR0.out.ex
                rw [h5.count, h4.count]
                exact HLS.out
        | 4, HK, hv =>
          · have hv' := fnElem_inv (f := 135) hv
            have hdd : Rd.decl d' rest = Rd.level 3 d' rest := by unfold Rd.decl; rw [HMM.out, if_pos H2.out, HK.out]; rfl
            have HDD := Lib.hid hdd
            have hkd : decide (((4 : Nat)) < 6) = true := by decide
            subst hv'
            clear hdd hv
            cases hres : Rd.level 3 d' rest with
            | bad c r =>
              have hc0 : c ≠ 0 := decl_code (HDD.out.trans hres)
              have c1 : ((c : Int) != 0) = true := by rw [bne_iff_ne]; omega
              have c2 : (c != 0) = true := by rw [bne_iff_ne]; omega
              have HRS := Lib.hid hres
              have HBD := Lib.hid (show Rd.decls (ms.length + 1) d ms = .bad c r by rw [HRES.out, ← HD.out]; exact decls_bad hf0 (by rw [HMM.out]; exact HW.out) (HDD.out.trans hres))
              clear hres hc0
              go_wp2_with fail
              refine (nonassoc_any B g x.m d' rest _ HR4.out hrne).mono ?_
              rw [HRS.out]
              rintro e w5 ⟨⟨rfl, h5⟩, hf5⟩
              have H5 := Lib.hid h5
              have HF5 := Lib.hid (HF4.out.trans hf5)
              clear h5 hf5
              go_wp2_with fail
              go_ret
              refine ⟨?_, HF5.out⟩
              rw [HBD.out]
              exact ⟨rfl, H5.out⟩
            | ok d2 r =>
              have HRS := Lib.hid hres
              have hless := Rd.decl_less d' rest
              rw [HDD.out, hres] at hless
              have hless' : r.length < rest.length := hless
              have HLS := Lib.hid hless'
              have HON := Lib.hid (show Rd.decls (f - 1) d2 r = RES by rw [← HD.out]; exact (decls_on hf0 (by rw [HMM.out]; exact HW.out) (HDD.out.trans hres)).symm)
              clear hres hless hless'
              go_wp2_with fail
              refine (nonassoc_any B g x.m d' rest _ HR4.out hrne).mono ?_
              rw [HRS.out]
              rintro e w5 ⟨⟨rfl, h5⟩, hf5⟩
              have H5 := Lib.hid h5
              have HF5 := Lib.hid (HF4.out.trans hf5)
              have HA5 := Lib.hid (HA4.out.fr hf5 hneq)
              clear h5 hf5
              go_wp2_with fail
              go_roundw
              case rel => exact ⟨d2, r, f - 1, H5.out, HON.out, by have := HLS.out; omega, HA5.out, HF5.out⟩
              case measure =>
                obtain ⟨x5, h5, _⟩ := H5.out.ex
                obtain ⟨x4, h4, _⟩ := HR0.out.ex
                rw [h5.count, h4.count]
                exact HLS.out
        | 5, HK, hv =>
          · have hv' := fnElem_inv (f := 136) hv
            have hdd : Rd.decl d' rest = Rd.start d' rest := by unfold Rd.decl; rw [HMM.out, if_pos H2.out, HK.out]; rfl
            have HDD := Lib.hid hdd
            have hkd : decide (((5 : Nat)) < 6) = true := by decide
            subst hv'
            clear hdd hv
            cases hres : Rd.start d' rest with
            | bad c r =>
              have hc0 : c ≠ 0 := decl_code (HDD.out.trans hres)
              have c1 : ((c : Int) != 0) = true := by rw [bne_iff_ne]; omega
              have c2 : (c != 0) = true := by rw [bne_iff_ne]; omega
              have HRS := Lib.hid hres
              have HBD := Lib.hid (show Rd.decls (ms.length + 1) d ms = .bad c r by rw [HRES.out, ← HD.out]; exact decls_bad hf0 (by rw [HMM.out]; exact HW.out) (HDD.out.trans hres))
              clear hres hc0
              go_wp2_with fail
              refine (start_any B g x.m d' rest _ HR4.out hrne).mono ?_
              rw [HRS.out]
              rintro e w5 ⟨⟨rfl, h5⟩, hf5⟩
              have H5 := Lib.hid h5
              have HF5 := Lib.hid (HF4.out.trans hf5)
              clear h5 hf5
              go_wp2_with fail
              go_ret
              refine ⟨?_, HF5.out⟩
              rw [HBD.out]
              exact ⟨rfl, H5.out⟩
            | ok d2 r =>
              have HRS := Lib.hid hres
              have hless := Rd.decl_less d' rest
              rw [HDD.out, hres] at hless
              have hless' : r.length < rest.length := hless
              have HLS := Lib.hid hless'
              have HON := Lib.hid (show Rd.decls (f - 1) d2 r = RES by rw [← HD.out]; exact (decls_on hf0 (by rw [HMM.out]; exact HW.out) (HDD.out.trans hres)).symm)
              clear hres hless hless'
              go_wp2_with fail
              refine (start_any B g x.m d' rest _ HR4.out hrne).mono ?_
              rw [HRS.out]
              rintro e w5 ⟨⟨rfl, h5⟩, hf5⟩
              have H5 := Lib.hid h5
              have HF5 := Lib.hid (HF4.out.trans hf5)
              have HA5 := Lib.hid (HA4.out.fr hf5 hneq)
              clear h5 hf5
              go_wp2_with fail
              go_roundw
              case rel => exact ⟨d2, r, f - 1, H5.out, HON.out, by have := HLS.out; omega, HA5.out, HF5.out⟩
              case measure =>
                obtain ⟨x5, h5, _⟩ := H5.out.ex
                obtain ⟨x4, h4, _⟩ := HR0.out.ex
                rw [h5.count, h4.count]
                exact HLS.out
        | n + 6, HK, hv =>
          have hkd : decide (n + 6 < 6) = false := by simp
          have hdd : Rd.decl d' rest = .bad 14 rest := by unfold Rd.decl; rw [HMM.out, if_pos H2.out, HK.out]; rfl
          have HBD := Lib.hid (show Rd.decls (ms.length + 1) d ms = .bad 14 rest by rw [HRES.out, ← HD.out]; exact decls_bad hf0 (by rw [HMM.out]; exact HW.out) hdd)
          rw [hkd]
          clear hdd hkd
          go_wp2_with fail
          go_ret
          refine ⟨?_, HF4.out⟩
          rw [HBD.out]
          obtain ⟨z, hz, _⟩ := HR4.out.ex
          exact ⟨rfl, z, hz⟩
      · have k1 : ((M.kind : Int) != 2) = true := by rw [bne_iff_ne]; omega
        have k2 : (M.kind != 2) = true := by rw [bne_iff_ne]; omega
        have hdd : Rd.decl d' rest = .bad 14 rest := by unfold Rd.decl; rw [HMM.out, if_neg h2]
        have HBD := Lib.hid (show Rd.decls (ms.length + 1) d ms = .bad 14 rest by rw [HRES.out, ← HD.out]; exact decls_bad hf0 (by rw [HMM.out]; exact HW.out) hdd)
        clear h2 hdd
        generalize decide (Rd.wordNo M.text < 6) = bb
        go_wp2_with fail
        go_ret
        refine ⟨?_, HF4.out⟩
        rw [HBD.out]
        obtain ⟨z, hz, _⟩ := HR4.out.ex
        exact ⟨rfl, z, hz⟩

end Go.Proofs.YtpgmapjjjpcmfaaGreatDoor

namespace Go.Proofs.YtpgmapjjjpcmfaaGreatDoor
open Go.RowKit
open Lx
set_option linter.unusedVariables false
set_option linter.unusedSimpArgs false
set_option maxRecDepth 100000

theorem Tryz.sizeGrammar : (Tryz.prog.info? 27).map (·.size) = some 5 := by kernel_rfl

/-- The grammar G lies in the value v. -/
structure GramIs (w : World) (v : Value) (G : Rd.G) : Prop where
  ex : ∃ tv sv lv rv, v = .agg #[tv, sv, lv, .string (str G.start), rv] ∧
    (∃ A cap, tv = .slice A G.toks.length cap ∧ Lie w 41 A (toksV G.toks)) ∧
    (∃ A cap, sv = .slice A G.skips.length cap ∧ Lie w 39 A (patsV G.skips)) ∧
    (∃ A cap pl, lv = .slice A G.levels.length cap ∧ pl.map (·.1) = G.levels ∧ Lie w 50 A (levsV pl) ∧ ∀ p ∈ pl, Nms w p.2 p.1.names) ∧
    (∃ A cap ql, rv = .slice A G.rules.length cap ∧ ql.map (·.1) = G.rules ∧ Lie w 36 A (rulesV ql) ∧ ∀ p ∈ ql, Nms w p.2 p.1.right)
theorem GramIs.below {w w' : World} {v : Value} {G : Rd.G} (h : GramIs w v G) (hb : Below w.heap.size w w') : GramIs w' v G := by
  obtain ⟨tv, sv, lv, rv, h0, ⟨A1, c1, h1, k1⟩, ⟨A2, c2, h2, k2⟩, ⟨A3, c3, pl, h3, q3, k3, j3⟩, ⟨A4, c4, ql, h4, q4, k4, j4⟩⟩ := h.ex
  exact ⟨tv, sv, lv, rv, h0, ⟨A1, c1, h1, k1.below hb⟩, ⟨A2, c2, h2, k2.below hb⟩, ⟨A3, c3, pl, h3, q3, k3.below hb, fun p hp => (j3 p hp).stay (Stay.below hb)⟩, ⟨A4, c4, ql, h4, q4, k4.below hb, fun p hp => (j4 p hp).stay (Stay.below hb)⟩⟩
theorem GramIs.five {w w' : World} {v : Value} {G : Rd.G} (h : GramIs w v G) (hf : Five w w') : GramIs w' v G := by
  obtain ⟨tv, sv, lv, rv, h0, ⟨A1, c1, h1, k1⟩, ⟨A2, c2, h2, k2⟩, ⟨A3, c3, pl, h3, q3, k3, j3⟩, ⟨A4, c4, ql, h4, q4, k4, j4⟩⟩ := h.ex
  exact ⟨tv, sv, lv, rv, h0, ⟨A1, c1, h1, k1.stay hf.tok⟩, ⟨A2, c2, h2, k2.stay hf.pat⟩, ⟨A3, c3, pl, h3, q3, k3.stay hf.lev, fun p hp => (j3 p hp).stay hf.str⟩, ⟨A4, c4, ql, h4, q4, k4.stay hf.rul, fun p hp => (j4 p hp).stay hf.str⟩⟩
def zeroG : Value := .agg #[.slice none 0 0, .slice none 0 0, .slice none 0 0, .string (str []), .slice none 0 0]
theorem GramIs.zero (w : World) : GramIs w zeroG Rd.zero :=
  ⟨_, _, _, _, rfl, ⟨none, 0, rfl, Lie.nil _ _ _⟩, ⟨none, 0, rfl, Lie.nil _ _ _⟩, ⟨none, 0, [], rfl, rfl, Lie.nil _ _ _, by simp⟩, ⟨none, 0, [], rfl, rfl, Lie.nil _ _ _, by simp⟩⟩
theorem Body.gram {w : World} {B : Nat} {x : Tl} {d : Rd.Decls} {rs : List Rd.Rule} {lev : List Rd.Name} (h : Body w B x d rs lev) (st : Rd.Name) : GramIs w (.agg #[x.t, x.s, x.l, .string (str st), x.r]) ⟨d.toks, d.skips, d.levels, st, rs⟩ := by
  obtain ⟨pl, h1, h2, h3⟩ := h.lvs
  obtain ⟨ql, h4, h5, h6⟩ := h.rls
  have k1 := h.tok
  have k2 := h.skp
  obtain ⟨a1, s1, e1⟩ := own_form k1
  obtain ⟨a2, s2, e2⟩ := own_form k2
  obtain ⟨a3, s3, e3⟩ := own_form h2
  obtain ⟨a4, s4, e4⟩ := own_form h5
  rw [e1] at k1
  rw [e2] at k2
  rw [e3] at h2
  rw [e4] at h5
  exact ⟨_, _, _, _, rfl, ⟨a1, s1, e1, Lie.own k1⟩, ⟨a2, s2, e2, Lie.own k2⟩, ⟨a3, s3, pl, e3, h1, Lie.own h2, h3⟩, ⟨a4, s4, ql, e4, h4, Lie.own h5, h6⟩⟩

theorem results_cell_cell {P : Program} {fn : Func} {q p : Tmp} {ty ty' : TypeId} (h : fn.results = #[.cell p ty, .cell q ty']) (tmps : Array Value) (w : World) (g : Nat) (t : TypeId) (cs : Array Value) (d : TypeDesc)
    (hp : tmps.getD p undef = .pointer (some ⟨g, 0, none⟩)) (hg : At w g t cs)
    (hu : P.underlying ty = some d) (hd : (match d with | .struct _ | .array _ _ => true | _ => false) = true) (hi : (P.info? ty).map (·.size) = some cs.size) (g' : Nat) (t' : TypeId) (cs' : Array Value) (d' : TypeDesc)
    (hq : tmps.getD q undef = .pointer (some ⟨g', 0, none⟩)) (hg' : At w g' t' cs')
    (hu' : P.underlying ty' = some d') (hd' : (match d' with | .struct _ | .array _ _ => true | _ => false) = true) (hi' : (P.info? ty').map (·.size) = some cs'.size) :
    (results fn tmps).run P w = .ok (.tuple #[.agg cs, .agg cs']) w := by
  have hp' : tmps[p]?.getD undef = .pointer (some ⟨g, 0, none⟩) := by simpa using hp
  have hq' : tmps[q]?.getD undef = .pointer (some ⟨g', 0, none⟩) := by simpa using hq
  simp [results, h, hp', hq', asAddr, run_loadVar_row w g t ty cs (0, 0) d hg hu hd hi, run_loadVar_row w g' t' ty' cs' (0, 0) d' hg' hu' hd' hi']
theorem At.five_ {w : World} {g : Nat} {t : TypeId} {a b c d e : Value} (h : At w g t #[a, b, c, d, e]) (a' b' c' d' e' : Value) :
    At (((((w.setCell ⟨g, 0, none⟩ a').setCell ⟨g, 1, none⟩ b').setCell ⟨g, 2, none⟩ c').setCell ⟨g, 3, none⟩ d').setCell ⟨g, 4, none⟩ e') g t #[a', b', c', d', e'] := by
  have := ((((h.set 0 a').set 1 b').set 2 c').set 3 d').set 4 e'
  simpa using this
theorem grown_five (w : World) (g : Nat) (a' b' c' d' e' : Value) : w.grownBy (((((w.setCell ⟨g, 0, none⟩ a').setCell ⟨g, 1, none⟩ b').setCell ⟨g, 2, none⟩ c').setCell ⟨g, 3, none⟩ d').setCell ⟨g, 4, none⟩ e') (some g) :=
  grown_set (grown_set (grown_set (grown_set (grown_set (grown_refl _ _) _ _) _ _) _ _) _ _) _ _

namespace Rd
theorem decls_code {f : Nat} {d : Decls} {ms : List Mk} {c : Nat} {r : List Mk} (h : decls f d ms = .bad c r) : c ≠ 0 := by
  induction f generalizing d ms with
  | zero => unfold decls at h; cases h; decide
  | succ f ih =>
    unfold decls at h
    split at h
    · cases h
    · cases hd : decl d ms with
      | bad e r' => rw [hd] at h; cases h; exact Go.Proofs.YtpgmapjjjpcmfaaGreatDoor.decl_code hd
      | ok d' r' => rw [hd] at h; exact ih h
theorem rules_code {f : Nat} {acc : List Rule} {ms : List Mk} {c : Nat} {r : List Mk} (h : rules f acc ms = .bad c r) : c ≠ 0 := by
  induction f generalizing acc ms with
  | zero => unfold rules at h; cases h; decide
  | succ f ih =>
    unfold rules at h
    cases hd : rule acc ms with
    | bad e r' => rw [hd] at h; cases h; exact Go.Proofs.YtpgmapjjjpcmfaaGreatDoor.rule_code hd
    | ok d' r' =>
      rw [hd] at h
      simp only [] at h
      split at h
      · cases h
      · exact ih h
theorem alts_ne {f : Nat} {left : Name} {acc rs : List Rule} {ms r : List Mk} (h : alts f left acc ms = .ok rs r) : rs ≠ [] := by
  induction f generalizing acc ms with
  | zero => unfold alts at h; cases h
  | succ f ih =>
    unfold alts at h
    cases ha : alt left acc.length ms with
    | bad e r' => rw [ha] at h; cases h
    | ok x r' =>
      rw [ha] at h
      simp only [] at h
      split at h
      · cases h; simp
      · split at h
        · exact ih h
        · cases h
theorem rule_ne {acc rs : List Rule} {ms r : List Mk} (h : rule acc ms = .ok rs r) : rs ≠ [] := by
  unfold rule at h
  split at h
  · cases h
  · split at h
    · cases h
    · exact alts_ne h
theorem rules_ne {f : Nat} {acc rs : List Rule} {ms r : List Mk} (h : rules f acc ms = .ok rs r) : rs ≠ [] := by
  induction f generalizing acc ms with
  | zero => unfold rules at h; cases h
  | succ f ih =>
    unfold rules at h
    cases hd : rule acc ms with
    | bad e r' => rw [hd] at h; cases h
    | ok d' r' =>
      rw [hd] at h
      simp only [] at h
      split at h
      · cases h; exact rule_ne hd
      · exact ih h
theorem decls_most {f : Nat} {d : Decls} {ms : List Mk} : (decls f d ms).Most ms.length := by
  induction f generalizing d ms with
  | zero => exact Nat.le_refl _
  | succ f ih =>
    unfold decls
    split
    · simp [Res.Most]
    · have h1 := decl_less d ms
      cases hd : decl d ms with
      | bad e r' => rw [hd] at h1; exact h1
      | ok d' r' =>
        rw [hd] at h1
        have h2 := ih (d := d') (ms := r')
        simp only []
        revert h2
        generalize decls f d' r' = y
        intro h2
        cases y <;> simp only [Res.Most, Res.Less] at * <;> omega
end Rd

/-- What Marks tells. -/
structure MarksTell (res : Rd.Res Rd.G) (w : World) (e : Ending) (w' : World) : Prop where
  ex : ∃ gv, e = .returned (.tuple #[gv, diagV res.diag]) ∧ GramIs w' gv res.grammar
  below : Below w.heap.size w w'

def readCells (A : Option Addr) (n cap m : Nat) : Array Value := #[.slice A n cap, .slice none 0 0, .slice none 0 0, .slice none 0 0, .string (str []), .slice none 0 0, .map (some m), .bool false]
theorem read_start (A : Option Addr) (cap : Nat) (ms : List Mk) (w : World) (hcap : ms.length ≤ cap) (hs : Sane ms) (hl : Lie w 124 A (marksV ms)) (h1 : ms.length ≤ 1000000) :
    RdAt ((w.alloc (.map #[] 0)).alloc (.cells (readCells A ms.length cap w.heap.size) 135)) w.heap.size (w.heap.size + 1) w.heap.size Rd.none_ [] [] ms := by
  have hb : Below w.heap.size w ((w.alloc (.map #[] 0)).alloc (.cells (readCells A ms.length cap w.heap.size) 135)) := ((Below.refl _ _).alloc (Nat.le_refl _) _).alloc (by simp) _
  refine ⟨⟨⟨.slice none 0 0, .slice none 0 0, .slice none 0 0, str [], .slice none 0 0, w.heap.size, false⟩, ⟨hs, A, cap, hcap, ?_, hl.below hb⟩, ⟨World.ownsRow_nil _ _ _ _, World.ownsRow_nil _ _ _ _, ⟨[], rfl, World.ownsRow_nil _ _ _ _, by simp⟩, rfl, ⟨[], rfl, World.ownsRow_nil _ _ _ _, by simp⟩, ?_, rfl, Nat.le_refl _⟩, rfl⟩, by omega, ?_⟩
  · have := At.new (w.alloc (.map #[] 0)) 135 (readCells A ms.length cap w.heap.size)
    simpa [Tl.cells, readCells] using this
  · exact ⟨.map [], (World.ownsMap_made _ _ _ _).alloc _, fun s => by simp [Maps.has]⟩
  · exact ⟨by simp [Rd.none_], by simp [Rd.none_], by simp [Rd.none_], by simp, by simpa using h1⟩


set_option maxHeartbeats 400000 in
theorem marks_any (A : Option Addr) (cap : Nat) (ms : List Mk) (w : World) (hcap : ms.length ≤ cap) (hs : Sane ms) (hl : Lie w 124 A (marksV ms)) (h1 : ms.length ≤ 1000000) :
    Calls Tryz.prog 76 #[.slice A ms.length cap] w (MarksTell (Rd.parse ms) w) := by
  have HL := Lib.hid hl
  have hmm := @run_makeMap Tryz.prog
  clear hl
  cases hd : Rd.decls (ms.length + 1) Rd.none_ ms with
  | bad c r =>
    have hp : Rd.parse ms = .bad c r := by unfold Rd.parse; rw [hd]
    rw [hp]
    have hc0 := Rd.decls_code hd
    have c1 : ((c : Int) == 0) = false := by rw [beq_eq_false_iff_ne]; omega
    have c2 : (c == 0) = false := by rw [beq_eq_false_iff_ne]; omega
    have c3 : ((c : Int) != 0) = true := by rw [bne_iff_ne]; omega
    have c4 : (c != 0) = true := by rw [bne_iff_ne]; omega
    have HD := Lib.hid hd
    obtain ⟨M, hM⟩ : ∃ M, Rd.hd r = M := ⟨_, rfl⟩
    have HM := Lib.hid hM
    have hfa := field_at M
    clear hd hp hc0 hM
    go_enter Tryz.func76, Tryz.ntmps76
    go_wp2_with fail
    have hb0 : Below w.heap.size w ((w.alloc (.cells #[.slice none 0 0, .slice none 0 0, .slice none 0 0, .string ⟨#[]⟩, .slice none 0 0] 27)).alloc (.cells #[.int .i64 0, .int .i64 0, .int .i64 0] 82)) := ((Below.refl _ _).alloc (Nat.le_refl _) _).alloc (by simp) _
    have HGG0 := Lib.hid ((At.new w 27 #[.slice none 0 0, .slice none 0 0, .slice none 0 0, .string ⟨#[]⟩, .slice none 0 0]).alloc (.cells #[.int .i64 0, .int .i64 0, .int .i64 0] 82))
    have hdd0 := At.new (w.alloc (.cells #[.slice none 0 0, .slice none 0 0, .slice none 0 0, .string ⟨#[]⟩, .slice none 0 0] 27)) 82 #[.int .i64 0, .int .i64 0, .int .i64 0]
    obtain ⟨w0, hw0⟩ : ∃ w0, (w.alloc (.cells #[.slice none 0 0, .slice none 0 0, .slice none 0 0, .string ⟨#[]⟩, .slice none 0 0] 27)).alloc (.cells #[.int .i64 0, .int .i64 0, .int .i64 0] 82) = w0 := ⟨_, rfl⟩
    have hs0 : w0.heap.size = w.heap.size + 2 := by rw [← hw0]; simp
    have hst := read_start A cap ms w0 hcap hs (by rw [← hw0]; exact HL.out.below hb0) h1
    rw [hs0] at hst
    have hst' : RdAt ((w0.alloc (.map #[] 0)).alloc (.cells (readCells A ms.length cap (w.heap.size + 1 + 1)) 135)) (w.heap.size + 1 + 1) (w.heap.size + 1 + 1 + 1) (w.heap.size + 1 + 1) Rd.none_ [] [] ms := hst
    have hb4 : Below w.heap.size w ((w0.alloc (.map #[] 0)).alloc (.cells (readCells A ms.length cap (w.heap.size + 1 + 1)) 135)) := ((by rw [← hw0]; exact hb0 : Below w.heap.size w w0).alloc (by omega) _).alloc (by simp; omega) _
    have hG4 := (HGG0.out.alloc (.map #[] 0)).alloc (.cells (readCells A ms.length cap (w.heap.size + 1 + 1)) 135)
    have hD4 := (hdd0.alloc (.map #[] 0)).alloc (.cells (readCells A ms.length cap (w.heap.size + 1 + 1)) 135)
    rw [hw0] at hG4 hD4 ⊢
    have hD4' : At ((w0.alloc (.map #[] 0)).alloc (.cells (readCells A ms.length cap (w.heap.size + 1 + 1)) 135)) (w.heap.size + 1) 82 #[.int .i64 0, .int .i64 0, .int .i64 0] := by simpa using hD4
    obtain ⟨w4, hw4⟩ : ∃ w4, (w0.alloc (.map #[] 0)).alloc (.cells (readCells A ms.length cap (w.heap.size + 1 + 1)) 135) = w4 := ⟨_, rfl⟩
    have hw4' := hw4
    unfold readCells at hw4'
    have e0 : str [] = ⟨#[]⟩ := rfl
    rw [e0] at hw4'
    rw [hw4] at hst' hb4 hG4 hD4'
    rw [hw4']
    have hB4 := hb4.size
    obtain ⟨gg, hgg⟩ : ∃ gg, w.heap.size = gg := ⟨_, rfl⟩
    obtain ⟨gd, hgd⟩ : ∃ gd, gg + 1 = gd := ⟨_, rfl⟩
    obtain ⟨B, hBB⟩ : ∃ B, gd + 1 = B := ⟨_, rfl⟩
    rw [hgg, hgd, hBB] at hst'
    rw [hgg] at hG4
    rw [hgg, hgd] at hD4'
    rw [hgg, hgd, hBB]
    have HST := Lib.hid hst'
    have HB4 := Lib.hid hb4
    have HGG4 := Lib.hid hG4
    have HDD4 := Lib.hid hD4'
    have hBw : B ≤ w4.heap.size := by have := HST.out.base; obtain ⟨x0, hx0, _⟩ := HST.out.ex; have := hx0.lt; omega
    clear hst hst' hb4 hG4 hD4 hD4' hw4 hw4' e0 hb0 hdd0 hw0 HGG0 hmm hs0
    refine (declarations_any B (B + 1) B Rd.none_ ms w4 HST.out).mono ?_
    rw [HD.out]
    rintro e w5 ⟨⟨rfl, h5⟩, hf5⟩
    have H5 := Lib.hid h5
    have HGG5 := Lib.hid (HGG4.out.below hf5.below (by omega))
    have HDD5 := Lib.hid (HDD4.out.below hf5.below (by omega))
    have HB5 := Lib.hid (HB4.out.trans (hf5.below.mono (by omega)))
    clear h5 hf5
    go_wp2_with fail
    obtain ⟨x5, hx5⟩ := H5.out
    refine (here_any (B + 1) x5 r _ hx5).mono ?_
    rw [HM.out]
    rintro e w6 ⟨rfl, hb6⟩
    have HGG6 := Lib.hid (HGG5.out.below hb6 HGG5.out.lt)
    have HDD6 := Lib.hid (HDD5.out.below hb6 HDD5.out.lt)
    have HB6 := Lib.hid (HB5.out.trans (hb6.mono HB5.out.size))
    clear hb6 hx5
    unfold Mk.val
    have g0 := HGG6.out.cell 0
    have g1 := HGG6.out.cell 1
    have g2 := HGG6.out.cell 2
    have g3 := HGG6.out.cell 3
    have g4 := HGG6.out.cell 4
    have gf := HGG6.out.frozen
    have d0 := HDD6.out.cell 0
    have d1 := HDD6.out.cell 1
    have d2 := HDD6.out.cell 2
    have df := HDD6.out.frozen
    simp only [List.getElem?_toArray, List.getElem?_cons_zero, List.getElem?_cons_succ] at g0 g1 g2 g3 g4 d0 d1 d2
    go_wp2_with fail
    have e1 := (HGG6.out.five_ (.slice none 0 0) (.slice none 0 0) (.slice none 0 0) (.string ⟨#[]⟩) (.slice none 0 0))
    have hne : gd ≠ gg := by omega
    have e2 := (rest_far HDD6.out (grown_five w6 gg (.slice none 0 0) (.slice none 0 0) (.slice none 0 0) (.string ⟨#[]⟩) (.slice none 0 0)) hne).three (.int .i64 (c : Int)) (.int .i64 (M.line : Int)) (.int .i64 (M.col : Int))
    have e3 := rest_far e1 (grown_three _ gd (.int .i64 (c : Int)) (.int .i64 (M.line : Int)) (.int .i64 (M.col : Int))) (Ne.symm hne)
    refine bodyPost_ret (results_cell_cell rfl _ _ gg _ _ _ rfl e3 Tryz.underlying27 rfl Tryz.sizeGrammar gd _ _ _ rfl e2 Tryz.underlying82 rfl Tryz.sizeDiag) rfl ⟨⟨zeroG, ?_, ?_⟩, ?_⟩
    · simp only [Rd.Res.diag]
      rw [HM.out]; rfl
    · exact GramIs.zero _
    · exact below_grown (below_grown HB6.out (grown_five _ _ _ _ _ _ _) HB6.out.size (by omega)) (grown_three _ _ _ _ _) (by have := HB6.out.size; have := (grown_five w6 gg (.slice none 0 0) (.slice none 0 0) (.slice none 0 0) (.string ⟨#[]⟩) (.slice none 0 0)).size; omega) (by omega)
  | ok d r =>
    have hmost := Rd.decls_most (f := ms.length + 1) (d := Rd.none_) (ms := ms)
    rw [hd] at hmost
    have hmost' : r.length ≤ ms.length := hmost
    cases hrl : Rd.rules (r.length + 1) [] r with
    | bad c r2 =>
      have hp : Rd.parse ms = .bad c r2 := by unfold Rd.parse; rw [hd]; simp only []; rw [hrl]
      rw [hp]
      have hc0 := Rd.rules_code hrl
      have c1 : ((c : Int) == 0) = false := by rw [beq_eq_false_iff_ne]; omega
      have c2 : (c == 0) = false := by rw [beq_eq_false_iff_ne]; omega
      have c3 : ((c : Int) != 0) = true := by rw [bne_iff_ne]; omega
      have c4 : (c != 0) = true := by rw [bne_iff_ne]; omega
      have HD := Lib.hid hd
      have HRL := Lib.hid hrl
      obtain ⟨M, hM⟩ : ∃ M, Rd.hd r2 = M := ⟨_, rfl⟩
      have HM := Lib.hid hM
      have hfa := field_at M
      clear hd hp hc0 hM hrl hmost hmost'
      go_enter Tryz.func76, Tryz.ntmps76
      go_wp2_with fail
      have hb0 : Below w.heap.size w ((w.alloc (.cells #[.slice none 0 0, .slice none 0 0, .slice none 0 0, .string ⟨#[]⟩, .slice none 0 0] 27)).alloc (.cells #[.int .i64 0, .int .i64 0, .int .i64 0] 82)) := ((Below.refl _ _).alloc (Nat.le_refl _) _).alloc (by simp) _
      have HGG0 := Lib.hid ((At.new w 27 #[.slice none 0 0, .slice none 0 0, .slice none 0 0, .string ⟨#[]⟩, .slice none 0 0]).alloc (.cells #[.int .i64 0, .int .i64 0, .int .i64 0] 82))
      have hdd0 := At.new (w.alloc (.cells #[.slice none 0 0, .slice none 0 0, .slice none 0 0, .string ⟨#[]⟩, .slice none 0 0] 27)) 82 #[.int .i64 0, .int .i64 0, .int .i64 0]
      obtain ⟨w0, hw0⟩ : ∃ w0, (w.alloc (.cells #[.slice none 0 0, .slice none 0 0, .slice none 0 0, .string ⟨#[]⟩, .slice none 0 0] 27)).alloc (.cells #[.int .i64 0, .int .i64 0, .int .i64 0] 82) = w0 := ⟨_, rfl⟩
      have hs0 : w0.heap.size = w.heap.size + 2 := by rw [← hw0]; simp
      have hst := read_start A cap ms w0 hcap hs (by rw [← hw0]; exact HL.out.below hb0) h1
      rw [hs0] at hst
      have hst' : RdAt ((w0.alloc (.map #[] 0)).alloc (.cells (readCells A ms.length cap (w.heap.size + 1 + 1)) 135)) (w.heap.size + 1 + 1) (w.heap.size + 1 + 1 + 1) (w.heap.size + 1 + 1) Rd.none_ [] [] ms := hst
      have hb4 : Below w.heap.size w ((w0.alloc (.map #[] 0)).alloc (.cells (readCells A ms.length cap (w.heap.size + 1 + 1)) 135)) := ((by rw [← hw0]; exact hb0 : Below w.heap.size w w0).alloc (by omega) _).alloc (by simp; omega) _
      have hG4 := (HGG0.out.alloc (.map #[] 0)).alloc (.cells (readCells A ms.length cap (w.heap.size + 1 + 1)) 135)
      have hD4 := (hdd0.alloc (.map #[] 0)).alloc (.cells (readCells A ms.length cap (w.heap.size + 1 + 1)) 135)
      rw [hw0] at hG4 hD4 ⊢
      have hD4' : At ((w0.alloc (.map #[] 0)).alloc (.cells (readCells A ms.length cap (w.heap.size + 1 + 1)) 135)) (w.heap.size + 1) 82 #[.int .i64 0, .int .i64 0, .int .i64 0] := by simpa using hD4
      obtain ⟨w4, hw4⟩ : ∃ w4, (w0.alloc (.map #[] 0)).alloc (.cells (readCells A ms.length cap (w.heap.size + 1 + 1)) 135) = w4 := ⟨_, rfl⟩
      have hw4' := hw4
      unfold readCells at hw4'
      have e0 : str [] = ⟨#[]⟩ := rfl
      rw [e0] at hw4'
      rw [hw4] at hst' hb4 hG4 hD4'
      rw [hw4']
      have hB4 := hb4.size
      obtain ⟨gg, hgg⟩ : ∃ gg, w.heap.size = gg := ⟨_, rfl⟩
      obtain ⟨gd, hgd⟩ : ∃ gd, gg + 1 = gd := ⟨_, rfl⟩
      obtain ⟨B, hBB⟩ : ∃ B, gd + 1 = B := ⟨_, rfl⟩
      rw [hgg, hgd, hBB] at hst'
      rw [hgg] at hG4
      rw [hgg, hgd] at hD4'
      rw [hgg, hgd, hBB]
      have HST := Lib.hid hst'
      have HB4 := Lib.hid hb4
      have HGG4 := Lib.hid hG4
      have HDD4 := Lib.hid hD4'
      have hBw : B ≤ w4.heap.size := by have := HST.out.base; obtain ⟨x0, hx0, _⟩ := HST.out.ex; have := hx0.lt; omega
      clear hst hst' hb4 hG4 hD4 hD4' hw4 hw4' e0 hb0 hdd0 hw0 HGG0 hmm hs0
      refine (declarations_any B (B + 1) B Rd.none_ ms w4 HST.out).mono ?_
      rw [HD.out]
      rintro e w41 ⟨⟨rfl, h41⟩, hf41⟩
      have HST2 := Lib.hid h41
      have HGG41 := Lib.hid (HGG4.out.below hf41.below (by omega))
      have HDD41 := Lib.hid (HDD4.out.below hf41.below (by omega))
      have HB41 := Lib.hid (HB4.out.trans (hf41.below.mono (by omega)))
      clear h41 hf41
      go_wp2_with fail
      refine (rules_any B (B + 1) B d [] (Rd.levelled d) r _ HST2.out).mono ?_
      rw [HRL.out]
      rintro e w5 ⟨⟨rfl, h5⟩, hf5⟩
      have H5 := Lib.hid h5
      have HGG5 := Lib.hid (HGG41.out.below hf5.below (by omega))
      have HDD5 := Lib.hid (HDD41.out.below hf5.below (by omega))
      have HB5 := Lib.hid (HB41.out.trans (hf5.below.mono (by omega)))
      clear h5 hf5
      go_wp2_with fail
      obtain ⟨x5, hx5⟩ := H5.out
      refine (here_any (B + 1) x5 r2 _ hx5).mono ?_
      rw [HM.out]
      rintro e w6 ⟨rfl, hb6⟩
      have HGG6 := Lib.hid (HGG5.out.below hb6 HGG5.out.lt)
      have HDD6 := Lib.hid (HDD5.out.below hb6 HDD5.out.lt)
      have HB6 := Lib.hid (HB5.out.trans (hb6.mono HB5.out.size))
      clear hb6 hx5
      unfold Mk.val
      have g0 := HGG6.out.cell 0
      have g1 := HGG6.out.cell 1
      have g2 := HGG6.out.cell 2
      have g3 := HGG6.out.cell 3
      have g4 := HGG6.out.cell 4
      have gf := HGG6.out.frozen
      have d0 := HDD6.out.cell 0
      have d1 := HDD6.out.cell 1
      have d2 := HDD6.out.cell 2
      have df := HDD6.out.frozen
      simp only [List.getElem?_toArray, List.getElem?_cons_zero, List.getElem?_cons_succ] at g0 g1 g2 g3 g4 d0 d1 d2
      go_wp2_with fail
      have e1 := (HGG6.out.five_ (.slice none 0 0) (.slice none 0 0) (.slice none 0 0) (.string ⟨#[]⟩) (.slice none 0 0))
      have hne : gd ≠ gg := by omega
      have e2 := (rest_far HDD6.out (grown_five w6 gg (.slice none 0 0) (.slice none 0 0) (.slice none 0 0) (.string ⟨#[]⟩) (.slice none 0 0)) hne).three (.int .i64 (c : Int)) (.int .i64 (M.line : Int)) (.int .i64 (M.col : Int))
      have e3 := rest_far e1 (grown_three _ gd (.int .i64 (c : Int)) (.int .i64 (M.line : Int)) (.int .i64 (M.col : Int))) (Ne.symm hne)
      refine bodyPost_ret (results_cell_cell rfl _ _ gg _ _ _ rfl e3 Tryz.underlying27 rfl Tryz.sizeGrammar gd _ _ _ rfl e2 Tryz.underlying82 rfl Tryz.sizeDiag) rfl ⟨⟨zeroG, ?_, ?_⟩, ?_⟩
      · simp only [Rd.Res.diag]
        rw [HM.out]; rfl
      · exact GramIs.zero _
      · exact below_grown (below_grown HB6.out (grown_five _ _ _ _ _ _ _) HB6.out.size (by omega)) (grown_three _ _ _ _ _) (by have := HB6.out.size; have := (grown_five w6 gg (.slice none 0 0) (.slice none 0 0) (.slice none 0 0) (.string ⟨#[]⟩) (.slice none 0 0)).size; omega) (by omega)
    | ok rs r2 =>
      have hrne := Rd.rules_ne hrl
      cases hsd : d.started with
      | true =>
        have hp : Rd.parse ms = .ok ⟨d.toks, d.skips, d.levels, d.start, rs⟩ r2 := by unfold Rd.parse; rw [hd]; simp only []; rw [hrl]; simp only [Rd.startOf]; rw [if_pos hsd]
        rw [hp]
        have HD := Lib.hid hd
        have HRL := Lib.hid hrl
        have HSD := Lib.hid hsd
        clear hd hp hrl hmost hmost' hsd hrne
        go_enter Tryz.func76, Tryz.ntmps76
        go_wp2_with fail
        have hb0 : Below w.heap.size w ((w.alloc (.cells #[.slice none 0 0, .slice none 0 0, .slice none 0 0, .string ⟨#[]⟩, .slice none 0 0] 27)).alloc (.cells #[.int .i64 0, .int .i64 0, .int .i64 0] 82)) := ((Below.refl _ _).alloc (Nat.le_refl _) _).alloc (by simp) _
        have HGG0 := Lib.hid ((At.new w 27 #[.slice none 0 0, .slice none 0 0, .slice none 0 0, .string ⟨#[]⟩, .slice none 0 0]).alloc (.cells #[.int .i64 0, .int .i64 0, .int .i64 0] 82))
        have hdd0 := At.new (w.alloc (.cells #[.slice none 0 0, .slice none 0 0, .slice none 0 0, .string ⟨#[]⟩, .slice none 0 0] 27)) 82 #[.int .i64 0, .int .i64 0, .int .i64 0]
        obtain ⟨w0, hw0⟩ : ∃ w0, (w.alloc (.cells #[.slice none 0 0, .slice none 0 0, .slice none 0 0, .string ⟨#[]⟩, .slice none 0 0] 27)).alloc (.cells #[.int .i64 0, .int .i64 0, .int .i64 0] 82) = w0 := ⟨_, rfl⟩
        have hs0 : w0.heap.size = w.heap.size + 2 := by rw [← hw0]; simp
        have hst := read_start A cap ms w0 hcap hs (by rw [← hw0]; exact HL.out.below hb0) h1
        rw [hs0] at hst
        have hst' : RdAt ((w0.alloc (.map #[] 0)).alloc (.cells (readCells A ms.length cap (w.heap.size + 1 + 1)) 135)) (w.heap.size + 1 + 1) (w.heap.size + 1 + 1 + 1) (w.heap.size + 1 + 1) Rd.none_ [] [] ms := hst
        have hb4 : Below w.heap.size w ((w0.alloc (.map #[] 0)).alloc (.cells (readCells A ms.length cap (w.heap.size + 1 + 1)) 135)) := ((by rw [← hw0]; exact hb0 : Below w.heap.size w w0).alloc (by omega) _).alloc (by simp; omega) _
        have hG4 := (HGG0.out.alloc (.map #[] 0)).alloc (.cells (readCells A ms.length cap (w.heap.size + 1 + 1)) 135)
        have hD4 := (hdd0.alloc (.map #[] 0)).alloc (.cells (readCells A ms.length cap (w.heap.size + 1 + 1)) 135)
        rw [hw0] at hG4 hD4 ⊢
        have hD4' : At ((w0.alloc (.map #[] 0)).alloc (.cells (readCells A ms.length cap (w.heap.size + 1 + 1)) 135)) (w.heap.size + 1) 82 #[.int .i64 0, .int .i64 0, .int .i64 0] := by simpa using hD4
        obtain ⟨w4, hw4⟩ : ∃ w4, (w0.alloc (.map #[] 0)).alloc (.cells (readCells A ms.length cap (w.heap.size + 1 + 1)) 135) = w4 := ⟨_, rfl⟩
        have hw4' := hw4
        unfold readCells at hw4'
        have e0 : str [] = ⟨#[]⟩ := rfl
        rw [e0] at hw4'
        rw [hw4] at hst' hb4 hG4 hD4'
        rw [hw4']
        have hB4 := hb4.size
        obtain ⟨gg, hgg⟩ : ∃ gg, w.heap.size = gg := ⟨_, rfl⟩
        obtain ⟨gd, hgd⟩ : ∃ gd, gg + 1 = gd := ⟨_, rfl⟩
        obtain ⟨B, hBB⟩ : ∃ B, gd + 1 = B := ⟨_, rfl⟩
        rw [hgg, hgd, hBB] at hst'
        rw [hgg] at hG4
        rw [hgg, hgd] at hD4'
        rw [hgg, hgd, hBB]
        have HST := Lib.hid hst'
        have HB4 := Lib.hid hb4
        have HGG4 := Lib.hid hG4
        have HDD4 := Lib.hid hD4'
        have hBw : B ≤ w4.heap.size := by have := HST.out.base; obtain ⟨x0, hx0, _⟩ := HST.out.ex; have := hx0.lt; omega
        clear hst hst' hb4 hG4 hD4 hD4' hw4 hw4' e0 hb0 hdd0 hw0 HGG0 hmm hs0
        refine (declarations_any B (B + 1) B Rd.none_ ms w4 HST.out).mono ?_
        rw [HD.out]
        rintro e w41 ⟨⟨rfl, h41⟩, hf41⟩
        have HST2 := Lib.hid h41
        have HGG41 := Lib.hid (HGG4.out.below hf41.below (by omega))
        have HDD41 := Lib.hid (HDD4.out.below hf41.below (by omega))
        have HB41 := Lib.hid (HB4.out.trans (hf41.below.mono (by omega)))
        clear h41 hf41
        go_wp2_with fail
        refine (rules_any B (B + 1) B d [] (Rd.levelled d) r _ HST2.out).mono ?_
        rw [HRL.out]
        rintro e w9 ⟨⟨rfl, h9⟩, hf9⟩
        obtain ⟨x, hx1, hx2, hx3⟩ := h9.ex
        obtain ⟨A9, cap9, hcap9, hat9, hli9⟩ := hx1.ex
        have HAT9 := Lib.hid hat9
        have HBO9 := Lib.hid hx2
        have HGG9 := Lib.hid (HGG41.out.below hf9.below (by omega))
        have HDD9 := Lib.hid (HDD41.out.below hf9.below (by omega))
        have HB9 := Lib.hid (HB41.out.trans (hf9.below.mono (by omega)))
        have c7' := hat9.cell 7
        simp only [Tl.cells, List.getElem?_toArray, List.getElem?_cons_zero, List.getElem?_cons_succ] at c7'
        rw [hx2.b, HSD.out] at c7'
        clear h9 hf9 hx1 hx2 hx3 hat9 hli9
        obtain ⟨pl, hp1, hp2, hp3⟩ := HBO9.out.lvs
        obtain ⟨ql, hq1, hq2, hq3⟩ := HBO9.out.rls
        obtain ⟨a1, s1, t1⟩ := own_form HBO9.out.tok
        obtain ⟨a2, s2, t2⟩ := own_form HBO9.out.skp
        obtain ⟨a3, s3, t3⟩ := own_form hp2
        obtain ⟨a4, s4, t4⟩ := own_form hq2
        have hgram := HBO9.out.gram d.start
        rw [t1, t2, t3, t4] at hgram
        have hst9 := HBO9.out.st
        have c0 := HAT9.out.cell 0
        have c1 := HAT9.out.cell 1
        have c2 := HAT9.out.cell 2
        have c3 := HAT9.out.cell 3
        have c4 := HAT9.out.cell 4
        have c5 := HAT9.out.cell 5
        have c6 := HAT9.out.cell 6
        have c7 := HAT9.out.cell 7
        have cf := HAT9.out.frozen
        simp only [Tl.cells, List.getElem?_toArray, List.getElem?_cons_zero, List.getElem?_cons_succ] at c0 c1 c2 c3 c4 c5 c6 c7
        rw [t1] at c1
        rw [t2] at c2
        rw [t3] at c3
        rw [t4] at c5
        rw [hst9] at c4
        have HGRAM := Lib.hid hgram
        have HT1 := Lib.hid t1
        clear hp1 hp2 hp3 hq1 hq2 hq3 t1 t2 t3 t4 hgram hst9
        have g0 := HGG9.out.cell 0
        have g1 := HGG9.out.cell 1
        have g2 := HGG9.out.cell 2
        have g3 := HGG9.out.cell 3
        have g4 := HGG9.out.cell 4
        have gf := HGG9.out.frozen
        have d0 := HDD9.out.cell 0
        have d1 := HDD9.out.cell 1
        have d2 := HDD9.out.cell 2
        have df := HDD9.out.frozen
        simp only [List.getElem?_toArray, List.getElem?_cons_zero, List.getElem?_cons_succ] at g0 g1 g2 g3 g4 d0 d1 d2
        go_wp2_with fail
        have hne : gd ≠ gg := by omega
        have f1 := grown_five w9 gg (.slice a1 d.toks.length s1) (.slice a2 d.skips.length s2) (.slice a3 d.levels.length s3) (.string (str d.start)) (.slice a4 rs.length s4)
        have e1 := (HGG9.out.five_ (.slice a1 d.toks.length s1) (.slice a2 d.skips.length s2) (.slice a3 d.levels.length s3) (.string (str d.start)) (.slice a4 rs.length s4))
        have e2' := rest_far HDD9.out f1 hne
        have e2 := e2'.three (.int .i64 0) (.int .i64 0) (.int .i64 0)
        have f2 := grown_three (((((w9.setCell ⟨gg, 0, none⟩ (.slice a1 d.toks.length s1)).setCell ⟨gg, 1, none⟩ (.slice a2 d.skips.length s2)).setCell ⟨gg, 2, none⟩ (.slice a3 d.levels.length s3)).setCell ⟨gg, 3, none⟩ (.string (str d.start))).setCell ⟨gg, 4, none⟩ (.slice a4 rs.length s4)) gd (.int .i64 0) (.int .i64 0) (.int .i64 0)
        have e3 := rest_far e1 f2 (Ne.symm hne)
        refine bodyPost_ret (results_cell_cell rfl _ _ gg _ _ _ rfl e3 Tryz.underlying27 rfl Tryz.sizeGrammar gd _ _ _ rfl e2 Tryz.underlying82 rfl Tryz.sizeDiag) rfl ⟨⟨_, rfl, ?_⟩, ?_⟩
        · exact (HGRAM.out.five ⟨Stay.far HGG9.out (by decide) f1, Stay.far HGG9.out (by decide) f1, Stay.far HGG9.out (by decide) f1, Stay.far HGG9.out (by decide) f1, Stay.far HGG9.out (by decide) f1⟩).five ⟨Stay.far e2' (by decide) f2, Stay.far e2' (by decide) f2, Stay.far e2' (by decide) f2, Stay.far e2' (by decide) f2, Stay.far e2' (by decide) f2⟩
        · exact below_grown (below_grown HB9.out f1 HB9.out.size (by omega)) f2 (by have := HB9.out.size; have := f1.size; omega) (by omega)
      | false =>
        have hp : Rd.parse ms = .ok ⟨d.toks, d.skips, d.levels, Rd.startOf d rs, rs⟩ r2 := by unfold Rd.parse; rw [hd]; simp only []; rw [hrl]
        have hso : Rd.startOf d rs = (rs.headD ⟨[], [], [], []⟩).left := by unfold Rd.startOf; rw [if_neg (by simp [hsd])]
        obtain ⟨left, hlf⟩ : ∃ left, (rs.headD ⟨[], [], [], []⟩).left = left := ⟨_, rfl⟩
        rw [hp, hso, hlf]
        have HLF := Lib.hid hlf
        have HD := Lib.hid hd
        have HRL := Lib.hid hrl
        have HSD := Lib.hid hsd
        have HNE := Lib.hid hrne
        clear hd hp hrl hmost hmost' hsd hrne hso hlf
        go_enter Tryz.func76, Tryz.ntmps76
        go_wp2_with fail
        have hb0 : Below w.heap.size w ((w.alloc (.cells #[.slice none 0 0, .slice none 0 0, .slice none 0 0, .string ⟨#[]⟩, .slice none 0 0] 27)).alloc (.cells #[.int .i64 0, .int .i64 0, .int .i64 0] 82)) := ((Below.refl _ _).alloc (Nat.le_refl _) _).alloc (by simp) _
        have HGG0 := Lib.hid ((At.new w 27 #[.slice none 0 0, .slice none 0 0, .slice none 0 0, .string ⟨#[]⟩, .slice none 0 0]).alloc (.cells #[.int .i64 0, .int .i64 0, .int .i64 0] 82))
        have hdd0 := At.new (w.alloc (.cells #[.slice none 0 0, .slice none 0 0, .slice none 0 0, .string ⟨#[]⟩, .slice none 0 0] 27)) 82 #[.int .i64 0, .int .i64 0, .int .i64 0]
        obtain ⟨w0, hw0⟩ : ∃ w0, (w.alloc (.cells #[.slice none 0 0, .slice none 0 0, .slice none 0 0, .string ⟨#[]⟩, .slice none 0 0] 27)).alloc (.cells #[.int .i64 0, .int .i64 0, .int .i64 0] 82) = w0 := ⟨_, rfl⟩
        have hs0 : w0.heap.size = w.heap.size + 2 := by rw [← hw0]; simp
        have hst := read_start A cap ms w0 hcap hs (by rw [← hw0]; exact HL.out.below hb0) h1
        rw [hs0] at hst
        have hst' : RdAt ((w0.alloc (.map #[] 0)).alloc (.cells (readCells A ms.length cap (w.heap.size + 1 + 1)) 135)) (w.heap.size + 1 + 1) (w.heap.size + 1 + 1 + 1) (w.heap.size + 1 + 1) Rd.none_ [] [] ms := hst
        have hb4 : Below w.heap.size w ((w0.alloc (.map #[] 0)).alloc (.cells (readCells A ms.length cap (w.heap.size + 1 + 1)) 135)) := ((by rw [← hw0]; exact hb0 : Below w.heap.size w w0).alloc (by omega) _).alloc (by simp; omega) _
        have hG4 := (HGG0.out.alloc (.map #[] 0)).alloc (.cells (readCells A ms.length cap (w.heap.size + 1 + 1)) 135)
        have hD4 := (hdd0.alloc (.map #[] 0)).alloc (.cells (readCells A ms.length cap (w.heap.size + 1 + 1)) 135)
        rw [hw0] at hG4 hD4 ⊢
        have hD4' : At ((w0.alloc (.map #[] 0)).alloc (.cells (readCells A ms.length cap (w.heap.size + 1 + 1)) 135)) (w.heap.size + 1) 82 #[.int .i64 0, .int .i64 0, .int .i64 0] := by simpa using hD4
        obtain ⟨w4, hw4⟩ : ∃ w4, (w0.alloc (.map #[] 0)).alloc (.cells (readCells A ms.length cap (w.heap.size + 1 + 1)) 135) = w4 := ⟨_, rfl⟩
        have hw4' := hw4
        unfold readCells at hw4'
        have e0 : str [] = ⟨#[]⟩ := rfl
        rw [e0] at hw4'
        rw [hw4] at hst' hb4 hG4 hD4'
        rw [hw4']
        have hB4 := hb4.size
        obtain ⟨gg, hgg⟩ : ∃ gg, w.heap.size = gg := ⟨_, rfl⟩
        obtain ⟨gd, hgd⟩ : ∃ gd, gg + 1 = gd := ⟨_, rfl⟩
        obtain ⟨B, hBB⟩ : ∃ B, gd + 1 = B := ⟨_, rfl⟩
        rw [hgg, hgd, hBB] at hst'
        rw [hgg] at hG4
        rw [hgg, hgd] at hD4'
        rw [hgg, hgd, hBB]
        have HST := Lib.hid hst'
        have HB4 := Lib.hid hb4
        have HGG4 := Lib.hid hG4
        have HDD4 := Lib.hid hD4'
        have hBw : B ≤ w4.heap.size := by have := HST.out.base; obtain ⟨x0, hx0, _⟩ := HST.out.ex; have := hx0.lt; omega
        clear hst hst' hb4 hG4 hD4 hD4' hw4 hw4' e0 hb0 hdd0 hw0 HGG0 hmm hs0
        refine (declarations_any B (B + 1) B Rd.none_ ms w4 HST.out).mono ?_
        rw [HD.out]
        rintro e w41 ⟨⟨rfl, h41⟩, hf41⟩
        have HST2 := Lib.hid h41
        have HGG41 := Lib.hid (HGG4.out.below hf41.below (by omega))
        have HDD41 := Lib.hid (HDD4.out.below hf41.below (by omega))
        have HB41 := Lib.hid (HB4.out.trans (hf41.below.mono (by omega)))
        clear h41 hf41
        go_wp2_with fail
        refine (rules_any B (B + 1) B d [] (Rd.levelled d) r _ HST2.out).mono ?_
        rw [HRL.out]
        rintro e w8 ⟨⟨rfl, h8⟩, hf8⟩
        obtain ⟨x, hx1, hx2, hx3⟩ := h8.ex
        obtain ⟨A8, cap8, hcap8, hat8, hli8⟩ := hx1.ex
        obtain ⟨ql, hq1, hq2, hq3⟩ := hx2.rls
        obtain ⟨a4, s4, t4⟩ := own_form hq2
        have hqn : ql ≠ [] := by rintro rfl; exact HNE.out hq1.symm
        obtain ⟨q0, qr, rfl⟩ := List.exists_cons_of_ne_nil hqn
        rw [t4] at hq2
        obtain ⟨rb, ro, rfl, hrb, hrc⟩ := (Lie.own hq2).cell (by simp [rulesV, ruleCells])
        have z0 : w8.cell? ⟨rb, ro, none⟩ = some (.string (str q0.1.left)) := hrc 0 _ rfl
        have hle : q0.1.left = left := by rw [← HLF.out, ← hq1]; rfl
        rw [hle] at z0
        have hrl0 : (0 : Int) < (rs.length : Int) := by
          have : rs.length ≠ 0 := fun e => HNE.out (List.eq_nil_of_length_eq_zero e)
          omega
        have HAT8 := Lib.hid hat8
        have HBO8 := Lib.hid hx2
        have HLI8 := Lib.hid hli8
        have HGG8 := Lib.hid (HGG41.out.below hf8.below (by omega))
        have HDD8 := Lib.hid (HDD41.out.below hf8.below (by omega))
        have HB8 := Lib.hid (HB41.out.trans (hf8.below.mono (by omega)))
        obtain ⟨a1, s1, t1⟩ := own_form hx2.tok
        obtain ⟨a2, s2, t2⟩ := own_form hx2.skp
        obtain ⟨pl, hp1, hp2, hp3⟩ := hx2.lvs
        obtain ⟨a3, s3, t3⟩ := own_form hp2
        have c0 := hat8.cell 0
        have c1 := hat8.cell 1
        have c2 := hat8.cell 2
        have c3 := hat8.cell 3
        have c4 := hat8.cell 4
        have c5 := hat8.cell 5
        have c6 := hat8.cell 6
        have c7 := hat8.cell 7
        have cf := hat8.frozen
        simp only [Tl.cells, List.getElem?_toArray, List.getElem?_cons_zero, List.getElem?_cons_succ] at c0 c1 c2 c3 c4 c5 c6 c7
        rw [t1] at c1
        rw [t2] at c2
        rw [t3] at c3
        rw [t4] at c5
        rw [hx2.b, HSD.out] at c7
        have HT1 := Lib.hid t1
        have HT2 := Lib.hid t2
        have HT3 := Lib.hid t3
        have HT4 := Lib.hid t4
        clear h8 hf8 hx1 hx2 hx3 hat8 hli8 hq1 hq2 hq3 hqn hrc t4 hle t1 t2 t3 hp1 hp2 hp3
        have g0 := HGG8.out.cell 0
        have g1 := HGG8.out.cell 1
        have g2 := HGG8.out.cell 2
        have g3 := HGG8.out.cell 3
        have g4 := HGG8.out.cell 4
        have gf := HGG8.out.frozen
        have d0 := HDD8.out.cell 0
        have d1 := HDD8.out.cell 1
        have d2 := HDD8.out.cell 2
        have df := HDD8.out.frozen
        simp only [List.getElem?_toArray, List.getElem?_cons_zero, List.getElem?_cons_succ] at g0 g1 g2 g3 g4 d0 d1 d2
        have n1 : ¬ (gg = B + 1) := by omega
        have n2 : ¬ (gd = B + 1) := by omega
        have n3 : ¬ (B + 1 = gg) := by omega
        have n4 : ¬ (B + 1 = gd) := by omega
        go_wp2_with fail
        have hgs : w8.grownBy (w8.setCell ⟨B + 1, 4, none⟩ (.string (str left))) (some (B + 1)) := grown_set (grown_refl _ _) 4 _
        have hgram := (HBO8.out.far HAT8.out hgs).gram left
        have HGG9 := Lib.hid (rest_far HGG8.out hgs n1)
        have HDD9 := Lib.hid (rest_far HDD8.out hgs n2)
        have HB9 := Lib.hid (below_grown HB8.out hgs HB8.out.size (by omega))
        rw [HT1.out, HT2.out, HT3.out, HT4.out] at hgram
        have HGRAM := Lib.hid hgram
        obtain ⟨w9, hw9⟩ : ∃ w9, w8.setCell ⟨B + 1, 4, none⟩ (.string (str left)) = w9 := ⟨_, rfl⟩
        rw [hw9] at HGG9 HDD9 HB9 HGRAM ⊢
        clear hgs hgram hw9
        obtain ⟨a4, ha4⟩ : ∃ a4, (some ⟨rb, ro, none⟩ : Option Addr) = a4 := ⟨_, rfl⟩
        rw [ha4] at HGRAM ⊢
        have hne : gd ≠ gg := by omega
        have f1 := grown_five w9 gg (.slice a1 d.toks.length s1) (.slice a2 d.skips.length s2) (.slice a3 d.levels.length s3) (.string (str left)) (.slice a4 rs.length s4)
        have e1 := (HGG9.out.five_ (.slice a1 d.toks.length s1) (.slice a2 d.skips.length s2) (.slice a3 d.levels.length s3) (.string (str left)) (.slice a4 rs.length s4))
        have e2' := rest_far HDD9.out f1 hne
        have e2 := e2'.three (.int .i64 0) (.int .i64 0) (.int .i64 0)
        have f2 := grown_three (((((w9.setCell ⟨gg, 0, none⟩ (.slice a1 d.toks.length s1)).setCell ⟨gg, 1, none⟩ (.slice a2 d.skips.length s2)).setCell ⟨gg, 2, none⟩ (.slice a3 d.levels.length s3)).setCell ⟨gg, 3, none⟩ (.string (str left))).setCell ⟨gg, 4, none⟩ (.slice a4 rs.length s4)) gd (.int .i64 0) (.int .i64 0) (.int .i64 0)
        have e3 := rest_far e1 f2 (Ne.symm hne)
        refine bodyPost_ret (results_cell_cell rfl _ _ gg _ _ _ rfl e3 Tryz.underlying27 rfl Tryz.sizeGrammar gd _ _ _ rfl e2 Tryz.underlying82 rfl Tryz.sizeDiag) rfl ⟨⟨_, rfl, ?_⟩, ?_⟩
        · exact (HGRAM.out.five ⟨Stay.far HGG9.out (by decide) f1, Stay.far HGG9.out (by decide) f1, Stay.far HGG9.out (by decide) f1, Stay.far HGG9.out (by decide) f1, Stay.far HGG9.out (by decide) f1⟩).five ⟨Stay.far e2' (by decide) f2, Stay.far e2' (by decide) f2, Stay.far e2' (by decide) f2, Stay.far e2' (by decide) f2, Stay.far e2' (by decide) f2⟩
        · exact below_grown (below_grown HB9.out f1 HB9.out.size (by omega)) f2 (by have := HB9.out.size; have := f1.size; omega) (by omega)

end Go.Proofs.YtpgmapjjjpcmfaaGreatDoor
