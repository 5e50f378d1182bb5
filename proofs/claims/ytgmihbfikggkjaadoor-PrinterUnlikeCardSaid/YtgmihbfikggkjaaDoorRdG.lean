/-
  What reads declarations, by words: the walks of declares and of a reading's declarations.
-/
import Derived.Test.YtgmihbfikggkjaaDoorRdE
import Derived.Test.YtgmihbfikggkjaaDoorRdF
namespace Go.Proofs.YtgmihbfikggkjaaDoor
open Go.RowKit
open Lx
set_option linter.unusedVariables false
set_option linter.unusedSimpArgs false
set_option maxRecDepth 100000

/-- How a function value without captures reads: its number. -/
def fnElem : Value → Option (DataW Unit × List MemPlace)
  | .func (.func f) a b => if a.size = 0 ∧ b.size = 0 then some (.lit (.int .i64 (f : Int)), []) else none
  | .nilFunc => some (.lit (.int .i64 (-1)), [])
  | _ => none
theorem fnElem_inv {v : Value} {f : Nat} {ps : List MemPlace} (h : fnElem v = some (.lit (.int .i64 (f : Int)), ps)) : v = .func (.func f) #[] #[] := by
  unfold fnElem at h
  split at h
  · rename_i f' a b
    split at h
    · rename_i hab
      simp only [Option.some.injEq, Prod.mk.injEq, DataW.lit.injEq, Lit.int.injEq, true_and] at h
      obtain ⟨h1, _⟩ := h
      have e : f' = f := Int.ofNat_inj.1 h1
      have ea : a = #[] := Array.eq_empty_of_size_eq_zero hab.1
      have eb : b = #[] := Array.eq_empty_of_size_eq_zero hab.2
      rw [e, ea, eb]
    · cases h
  · simp only [Option.some.injEq, Prod.mk.injEq, DataW.lit.injEq, Lit.int.injEq, true_and] at h
    have := h.1; omega
  · cases h
/-- The function that reads a declaration of the word number k. -/
def fnOf : Nat → Int
  | 0 => 87
  | 1 => 88
  | 2 => 89
  | 3 => 90
  | 4 => 91
  | 5 => 92
  | _ => -1

theorem wpList_insert_own {H : Type} {P : Program} (w : World) {ops : Array Oper} {rest : List Oper} {o : Oper} {a : Act} {Q : Exit → Act → World → Prop}
    (hg : o.guard = none) (m x v : Operand) (t : TypeId) (hop : o.op = Op.insert t m x v)
    (k e : TypeId) (K : Go.Maps.Keyed P k) (ht : P.underlying t = some (.map k e)) (R : Value → Option (DataW H × List MemPlace)) (b n : Nat) (D : DataW H)
    (hm : a.eval m = .map (some b)) (hown : w.ownsMap P k R b n D) (hn : n < maxLen) (key val : Value) (kl : Lit) (hx : a.eval x = key) (hv : a.eval v = val) (hkey : keyOf P k key = some kl)
    (d : DataW H) (ps : List MemPlace) (hval : R val = some (d, ps))
    (hK : ∀ w', w'.ownsMap P k R b (n + 1) (D.put kl d) → w.grownBy w' (some b) → wpList P ops Q rest (a.put o.dst undef) w') :
    wpList P ops Q (o :: rest) a w := by
  refine wpList_plain hg fun K' hK' => ?_
  obtain ⟨w', hrun, r1, r2⟩ := hown.update K ht hn hkey hval
  unfold Oper.wp
  simp [execOp, hop, hm, hx, hv, hrun, Result.andThen]
  exact hK' _ _ (hK w' r1 r2)

/-- Block all is the table of what reads declarations. -/
def HasFns (w : World) (all : Nat) : Prop := ∃ D : DataW Unit, w.ownsMap Tryd.prog 9 fnElem all 6 D ∧
  ∀ s : Rd.Name, D.atKey (.string s) (.lit (.int .i64 (-1))) = .lit (.int .i64 (fnOf (Rd.wordNo s))) ∧ Maps.has D (.string s) = decide (Rd.wordNo s < 6)
theorem HasFns.below {w w' : World} {all : Nat} (h : HasFns w all) (hb : Below w.heap.size w w') : HasFns w' all := by
  obtain ⟨D, h1, h2⟩ := h
  exact ⟨D, h1.kept (row := none) ⟨hb.os, hb.tape, hb.output, hb.size, fun i hi _ => hb.block i hi⟩ (by simp), h2⟩
theorem HasFns.fr {w w' : World} {all B m : Nat} (h : HasFns w all) (hf : Fr B m w w') (hne : all ≠ m) : HasFns w' all := by
  obtain ⟨D, ⟨es, c, h1, h3⟩, h2⟩ := h
  exact ⟨D, ⟨es, c, hf.maps all es c hne h1, h3⟩, h2⟩
theorem HasFns.look {w : World} {all : Nat} (h : HasFns w all) (T : Rd.Name) (hT : T.length ≤ 4000) :
    ∃ v ps, (Instr.lookup 109 (.map (some all)) (.string (str T)) true).run Tryd.prog w = .ok (.tuple #[v, .bool (decide (Rd.wordNo T < 6))]) w ∧ fnElem v = some (.lit (.int .i64 (fnOf (Rd.wordNo T))), ps) := by
  obtain ⟨D, h1, h2⟩ := h
  have hkey : keyOf Tryd.prog 9 (.string (str T)) = some (.string T) := Go.WideMaps.keyOf_string_mk Tryd.underlying9 (s := str T) (by
    have : (str T).size = T.length := by rw [← bl_length, bl_str]
    rw [this]; unfold maxLen; omega)
  obtain ⟨v, ps, hrun, hv⟩ := h1.look_ok (Go.Maps.string_keyed Tryd.underlying9) Tryd.underlying109 (z := .nilFunc) (by kernel_rfl) (zd := .lit (.int .i64 (-1))) (zp := []) rfl hkey
  rw [(h2 T).2] at hrun
  rw [(h2 T).1] at hv
  exact ⟨v, ps, hrun, hv⟩

theorem at_put {D : DataW Unit} (hD : Go.Maps.IsMap D) (s t : Rd.Name) (f : Int) (z : DataW Unit) : (D.put (.string t) (.lit (.int .i64 f))).atKey (.string s) z = if s = t then .lit (.int .i64 f) else D.atKey (.string s) z := by
  by_cases e : s = t
  · subst e
    rw [if_pos rfl, Go.Maps.atKey_put_same hD (by simp [WideAt.IsKeyLit])]
  · rw [if_neg e, Go.Maps.atKey_put_other (by simpa using e)]
theorem has_put {D : DataW Unit} (hD : Go.Maps.IsMap D) (s t : Rd.Name) (d : DataW Unit) : Maps.has (D.put (.string t) d) (.string s) = (decide (s = t) || Maps.has D (.string s)) := by
  by_cases e : s = t
  · subst e
    rw [Go.Maps.has_put_same hD (by simp [WideAt.IsKeyLit])]; simp
  · rw [Go.Maps.has_put_other (by simpa using e)]; simp [e]

def fnData : DataW Unit := ((((((DataW.map ([] : List (Lit × DataW Unit))).put (.string [116, 111, 107, 101, 110]) (.lit (.int .i64 (fnOf 0)))).put (.string [115, 107, 105, 112]) (.lit (.int .i64 (fnOf 1)))).put (.string [108, 101, 102, 116]) (.lit (.int .i64 (fnOf 2)))).put (.string [114, 105, 103, 104, 116]) (.lit (.int .i64 (fnOf 3)))).put (.string [110, 111, 110, 97, 115, 115, 111, 99]) (.lit (.int .i64 (fnOf 4)))).put (.string [115, 116, 97, 114, 116]) (.lit (.int .i64 (fnOf 5)))
theorem fnData_tells (s : Rd.Name) : fnData.atKey (.string s) (.lit (.int .i64 (-1))) = .lit (.int .i64 (fnOf (Rd.wordNo s))) ∧ Maps.has fnData (.string s) = decide (Rd.wordNo s < 6) := by
  have m0 : Go.Maps.IsMap (DataW.map ([] : List (Lit × DataW Unit))) := ⟨_, rfl⟩
  have m1 := m0.put (.string [116, 111, 107, 101, 110]) (.lit (.int .i64 (fnOf 0)))
  have m2 := m1.put (.string [115, 107, 105, 112]) (.lit (.int .i64 (fnOf 1)))
  have m3 := m2.put (.string [108, 101, 102, 116]) (.lit (.int .i64 (fnOf 2)))
  have m4 := m3.put (.string [114, 105, 103, 104, 116]) (.lit (.int .i64 (fnOf 3)))
  have m5 := m4.put (.string [110, 111, 110, 97, 115, 115, 111, 99]) (.lit (.int .i64 (fnOf 4)))
  unfold fnData
  rw [at_put m5, at_put m4, at_put m3, at_put m2, at_put m1, at_put m0, has_put m5, has_put m4, has_put m3, has_put m2, has_put m1, has_put m0]
  have z0 : (DataW.map ([] : List (Lit × DataW Unit))).atKey (.string s) (.lit (.int .i64 (-1))) = .lit (.int .i64 (fnOf 6)) := rfl
  have z1 : Maps.has (DataW.map ([] : List (Lit × DataW Unit))) (.string s) = false := rfl
  rw [z0, z1]
  unfold Rd.wordNo
  by_cases h0 : s = [116, 111, 107, 101, 110]
  · subst h0; constructor <;> simp
  · by_cases h1 : s = [115, 107, 105, 112]
    · subst h1; constructor <;> simp
    · by_cases h2 : s = [108, 101, 102, 116]
      · subst h2; constructor <;> simp
      · by_cases h3 : s = [114, 105, 103, 104, 116]
        · subst h3; constructor <;> simp
        · by_cases h4 : s = [110, 111, 110, 97, 115, 115, 111, 99]
          · subst h4; constructor <;> simp
          · by_cases h5 : s = [115, 116, 97, 114, 116]
            · subst h5; constructor <;> simp
            · simp [h0, h1, h2, h3, h4, h5]

set_option maxHeartbeats 2000000 in
theorem declares_any (w : World) :
    Calls Tryd.prog 58 #[] w fun e w' => e = .returned (.map (some w.heap.size)) ∧ HasFns w' w.heap.size ∧ Below w.heap.size w w' := by
  have hmm := @run_makeMap Tryd.prog
  go_enter Tryd.func58, Tryd.ntmps58
  go_wp2_with (refine wpList_insert_own _ rfl _ _ _ 109 rfl 9 112 (Go.Maps.string_keyed Tryd.underlying9) Tryd.underlying109 fnElem w.heap.size 0 _ rfl (World.ownsMap_made _ _ _ _) (by unfold maxLen; omega) _ _ _ rfl rfl (Go.WideMaps.keyOf_string_mk Tryd.underlying9 (by decide)) (.lit (.int .i64 (fnOf 0))) [] rfl ?_)
  intro w1 h1 g1
  go_wp2_with (refine wpList_insert_own _ rfl _ _ _ 109 rfl 9 112 (Go.Maps.string_keyed Tryd.underlying9) Tryd.underlying109 fnElem w.heap.size 1 _ rfl h1 (by unfold maxLen; omega) _ _ _ rfl rfl (Go.WideMaps.keyOf_string_mk Tryd.underlying9 (by decide)) (.lit (.int .i64 (fnOf 1))) [] rfl ?_)
  intro w2 h2 g2
  go_wp2_with (refine wpList_insert_own _ rfl _ _ _ 109 rfl 9 112 (Go.Maps.string_keyed Tryd.underlying9) Tryd.underlying109 fnElem w.heap.size 2 _ rfl h2 (by unfold maxLen; omega) _ _ _ rfl rfl (Go.WideMaps.keyOf_string_mk Tryd.underlying9 (by decide)) (.lit (.int .i64 (fnOf 2))) [] rfl ?_)
  intro w3 h3 g3
  go_wp2_with (refine wpList_insert_own _ rfl _ _ _ 109 rfl 9 112 (Go.Maps.string_keyed Tryd.underlying9) Tryd.underlying109 fnElem w.heap.size 3 _ rfl h3 (by unfold maxLen; omega) _ _ _ rfl rfl (Go.WideMaps.keyOf_string_mk Tryd.underlying9 (by decide)) (.lit (.int .i64 (fnOf 3))) [] rfl ?_)
  intro w4 h4 g4
  go_wp2_with (refine wpList_insert_own _ rfl _ _ _ 109 rfl 9 112 (Go.Maps.string_keyed Tryd.underlying9) Tryd.underlying109 fnElem w.heap.size 4 _ rfl h4 (by unfold maxLen; omega) _ _ _ rfl rfl (Go.WideMaps.keyOf_string_mk Tryd.underlying9 (by decide)) (.lit (.int .i64 (fnOf 4))) [] rfl ?_)
  intro w5 h5 g5
  go_wp2_with (refine wpList_insert_own _ rfl _ _ _ 109 rfl 9 112 (Go.Maps.string_keyed Tryd.underlying9) Tryd.underlying109 fnElem w.heap.size 5 _ rfl h5 (by unfold maxLen; omega) _ _ _ rfl rfl (Go.WideMaps.keyOf_string_mk Tryd.underlying9 (by decide)) (.lit (.int .i64 (fnOf 5))) [] rfl ?_)
  intro w6 h6 g6
  have hb : Below w.heap.size w w6 := ((Below.refl _ _).alloc (Nat.le_refl _) _).grown (grown_trans (grown_trans (grown_trans (grown_trans (grown_trans g1 g2) g3) g4) g5) g6) (by simp) (fun k e => by injection e with e; omega)
  have HB := Lib.hid hb
  have HD := Lib.hid h6
  clear h1 h2 h3 h4 h5 h6 g1 g2 g3 g4 g5 g6 hb hmm
  go_wp2_with fail
  go_ret
  exact ⟨rfl, ⟨fnData, HD.out, fnData_tells⟩, HB.out⟩

theorem decls_word {f : Nat} {d : Rd.Decls} {ms : List Mk} (hf : 0 < f) (h : Rd.isWord [37] (Rd.hd ms) = true) : Rd.decls f d ms = .ok d ms.tail := by
  cases f with
  | zero => omega
  | succ f => unfold Rd.decls; rw [if_pos h]
theorem decls_bad {f c : Nat} {d : Rd.Decls} {ms r : List Mk} (hf : 0 < f) (h : Rd.isWord [37] (Rd.hd ms) = false) (hd : Rd.decl d ms = .bad c r) : Rd.decls f d ms = .bad c r := by
  cases f with
  | zero => omega
  | succ f => unfold Rd.decls; rw [if_neg (by simp [h]), hd]
theorem decls_on {f : Nat} {d d' : Rd.Decls} {ms r : List Mk} (hf : 0 < f) (h : Rd.isWord [37] (Rd.hd ms) = false) (hd : Rd.decl d ms = .ok d' r) : Rd.decls f d ms = Rd.decls (f - 1) d' r := by
  cases f with
  | zero => omega
  | succ f => conv => lhs; unfold Rd.decls
              rw [if_neg (by simp [h]), hd]; rfl
theorem names_code {lev acc : List Rd.Name} {ms : List Mk} {c : Nat} {r : List Mk} : Rd.names lev ms acc = .bad c r → c = 15 := by
  fun_induction Rd.names lev ms acc
  all_goals first
    | (intro h; cases h; done)
    | (intro h; cases h; rfl)
    | (rename_i ih; exact ih)
theorem decl_code {d : Rd.Decls} {ms : List Mk} {c : Nat} {r : List Mk} (h : Rd.decl d ms = .bad c r) : c ≠ 0 := by
  unfold Rd.decl at h
  split at h
  · revert h
    generalize Rd.wordNo _ = k
    intro h
    have hl : ∀ a, Rd.level a d ms = .bad c r → c ≠ 0 := by
      intro a h
      unfold Rd.level at h
      split at h
      · cases h; decide
      · cases hn : Rd.names (Rd.levelled d) ms.tail [] with
        | bad c' r' =>
          rw [hn] at h
          cases h
          rw [names_code hn]; decide
        | ok l r' =>
          rw [hn] at h
          simp only [] at h
          split at h
          · cases h; decide
          · cases h
    match k, h with
    | 0, h =>
      simp only [Rd.declNo] at h
      unfold Rd.token at h
      repeat' split at h
      all_goals first
        | (cases h; done)
        | (cases h; decide)
        | (rename_i hp; cases h; rw [pattern_code hp]; decide)
    | 1, h =>
      simp only [Rd.declNo] at h
      unfold Rd.skip at h
      repeat' split at h
      all_goals first
        | (cases h; done)
        | (cases h; decide)
        | (rename_i hp; cases h; rw [pattern_code hp]; decide)
    | 2, h => exact hl 1 h
    | 3, h => exact hl 2 h
    | 4, h => exact hl 3 h
    | 5, h =>
      simp only [Rd.declNo] at h
      unfold Rd.start at h
      repeat' split at h
      all_goals first
        | (cases h; done)
        | (cases h; decide)
    | _ + 6, h =>
      simp only [Rd.declNo] at h
      cases h; decide
  · cases h; decide

end Go.Proofs.YtgmihbfikggkjaaDoor
