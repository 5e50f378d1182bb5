/-
  The walk of a reading's pattern.
-/
import Derived.Test.YtgmihbfikggkjaaDoorRdA
namespace Go.Proofs.YtgmihbfikggkjaaDoor
open Go.RowKit
open Lx
set_option linter.unusedVariables false
set_option linter.unusedSimpArgs false
set_option maxRecDepth 100000

theorem Tryd.sizePat : (Tryd.prog.info? 53).map (·.size) = some 3 := by kernel_rfl

def Rd.Pat.cells (p : Rd.Pat) : List Value := [.string (str p.text), .string (str p.set), .bool p.many]
def patV (p : Rd.Pat) : Value := .agg #[.string (str p.text), .string (str p.set), .bool p.many]
def noPat : Rd.Pat := ⟨[], [], false⟩
def Rd.Res.two : Rd.Res Rd.Pat → Value
  | .ok p _ => .tuple #[patV p, .bool true]
  | .bad _ _ => .tuple #[patV noPat, .bool false]
def Rd.Res.rest {α : Type} : Rd.Res α → List Mk
  | .ok _ r => r
  | .bad _ r => r

theorem results_cell_tmp {P : Program} {fn : Func} {q p : Tmp} {ty : TypeId} (h : fn.results = #[.cell p ty, .tmp q]) (tmps : Array Value) (w : World) (v : Value) (hv : tmps.getD q undef = v) (g : Nat) (t : TypeId) (cs : Array Value) (d : TypeDesc)
    (hp : tmps.getD p undef = .pointer (some ⟨g, 0, none⟩)) (hg : At w g t cs)
    (hu : P.underlying ty = some d) (hd : (match d with | .struct _ | .array _ _ => true | _ => false) = true) (hi : (P.info? ty).map (·.size) = some cs.size) :
    (results fn tmps).run P w = .ok (.tuple #[.agg cs, v]) w := by
  have hp' : tmps[p]?.getD undef = .pointer (some ⟨g, 0, none⟩) := by simpa using hp
  have hv' : tmps[q]?.getD undef = v := by simpa using hv
  simp [results, h, hp', hv', asAddr, run_loadVar_row w g t ty cs (0, 0) d hg hu hd hi]

theorem takeV_yes {k : Nat} {ms : List Mk} (h : (Rd.hd ms).kind = k) : takeV k ms = .tuple #[.string (str (Rd.hd ms).text), .bool true] := by unfold takeV; rw [if_pos h]
theorem takeR_yes {k : Nat} {ms : List Mk} (h : (Rd.hd ms).kind = k) : takeR k ms = ms.tail := by unfold takeR; rw [if_pos h]
theorem takeV_no {k : Nat} {ms : List Mk} (h : ¬ (Rd.hd ms).kind = k) : takeV k ms = .tuple #[.string (str []), .bool false] := by unfold takeV; rw [if_neg h]
theorem takeR_no {k : Nat} {ms : List Mk} (h : ¬ (Rd.hd ms).kind = k) : takeR k ms = ms := by unfold takeR; rw [if_neg h]

set_option maxHeartbeats 2000000 in
theorem pattern_any (g : Nat) (x : Tl) (ms : List Mk) (w : World) (hr : Rest w g x ms) :
    Calls Tryd.prog 107 #[.pointer (some ⟨g, 0, none⟩)] w fun e w' => e = .returned (Rd.pattern ms).two ∧ Rest w' g x (Rd.pattern ms).rest ∧ w.grownBy w' (some g) := by
  have HR := Lib.hid hr
  have hlt := hr.lt
  clear hr
  have HA := Lib.hid ((HR.out.alloc (.cells #[.string (str []), .string (str []), .bool false] 53)))
  have HDA := Lib.hid (At.new w 53 #[.string (str []), .string (str []), .bool false])
  have HGA := Lib.hid (grown_alloc (grown_refl w (some g)) (.cells #[.string (str []), .string (str []), .bool false] 53))
  by_cases h3 : (Rd.hd ms).kind = 3
  · have e : Rd.pattern ms = .ok ⟨(Rd.hd ms).text, [], false⟩ ms.tail := by unfold Rd.pattern; rw [if_pos h3]
    rw [e]
    have V3 := Lib.hid (takeV_yes h3)
    have R3 := Lib.hid (takeR_yes h3)
    clear e h3
    generalize (Rd.hd ms).text = T at V3 ⊢
    simp only [Rd.Res.two, Rd.Res.rest, patV]
    go_enter Tryd.func107, Tryd.ntmps107
    go_wp2_with fail
    refine (take_any 3 (by omega) g x ms _ HA.out).mono ?_
    rw [V3.out, R3.out]
    rintro e w1 ⟨rfl, hr, hg⟩
    have hsw1 := hg.size
    have HRw1 := Lib.hid hr
    have HDw1 := Lib.hid (HDA.out.grown hg (by simp; omega))
    have HGw1 := Lib.hid (grown_trans HGA.out hg)
    clear hr hg
    have d0 := HDw1.out.cell 0
    have d1 := HDw1.out.cell 1
    have d2 := HDw1.out.cell 2
    have df := HDw1.out.frozen
    simp only [List.getElem?_toArray, List.getElem?_cons_zero, List.getElem?_cons_succ] at d0 d1 d2
    go_wp2_with fail
    refine bodyPost_ret (results_cell_tmp rfl _ _ _ rfl w.heap.size _ _ _ rfl (HDw1.out.three _ _ _) Tryd.underlying53 rfl Tryd.sizePat) rfl ⟨rfl, ?_, ?_⟩
    · exact HRw1.out.stay (Stay.far HDw1.out (by decide) (grown_three _ _ _ _ _)) (Stay.far HDw1.out (by decide) (grown_three _ _ _ _ _))
    · exact grown_new (grown_new (grown_new HGw1.out (by simp) _) (by simp) _) (by simp) _
  · have V3 := Lib.hid (takeV_no h3)
    have R3 := Lib.hid (takeR_no h3)
    by_cases h4 : (Rd.hd ms).kind = 4
    · have V4 := Lib.hid (takeV_yes h4)
      have R4 := Lib.hid (takeR_yes h4)
      by_cases h5 : (Rd.hd ms.tail).kind = 5
      · have e : Rd.pattern ms = .ok ⟨[], (Rd.hd ms).text, true⟩ ms.tail.tail := by unfold Rd.pattern; rw [if_neg h3, if_pos h4, if_pos h5]
        rw [e]
        have V5 := Lib.hid (takeV_yes h5)
        have R5 := Lib.hid (takeR_yes h5)
        clear e h3 h4 h5
        generalize (Rd.hd ms).text = T at V4 ⊢
        generalize (Rd.hd ms.tail).text = T5 at V5
        simp only [Rd.Res.two, Rd.Res.rest, patV]
        go_enter Tryd.func107, Tryd.ntmps107
        go_wp2_with fail
        refine (take_any 3 (by omega) g x ms _ HA.out).mono ?_
        rw [V3.out, R3.out]
        rintro e w1 ⟨rfl, hr, hg⟩
        have hsw1 := hg.size
        have HRw1 := Lib.hid hr
        have HDw1 := Lib.hid (HDA.out.grown hg (by simp; omega))
        have HGw1 := Lib.hid (grown_trans HGA.out hg)
        clear hr hg
        go_wp2_with fail
        refine (take_any 4 (by omega) g x ms _ HRw1.out).mono ?_
        rw [V4.out, R4.out]
        rintro e w2 ⟨rfl, hr, hg⟩
        have hsw2 := hg.size
        have HRw2 := Lib.hid hr
        have HDw2 := Lib.hid (HDw1.out.grown hg (by simp; omega))
        have HGw2 := Lib.hid (grown_trans HGw1.out hg)
        clear hr hg
        go_wp2_with fail
        refine (take_any 5 (by omega) g x ms.tail _ HRw2.out).mono ?_
        rw [V5.out, R5.out]
        rintro e w3 ⟨rfl, hr, hg⟩
        have hsw3 := hg.size
        have HRw3 := Lib.hid hr
        have HDw3 := Lib.hid (HDw2.out.grown hg (by simp; omega))
        have HGw3 := Lib.hid (grown_trans HGw2.out hg)
        clear hr hg
        have d0 := HDw3.out.cell 0
        have d1 := HDw3.out.cell 1
        have d2 := HDw3.out.cell 2
        have df := HDw3.out.frozen
        simp only [List.getElem?_toArray, List.getElem?_cons_zero, List.getElem?_cons_succ] at d0 d1 d2
        go_wp2_with fail
        refine bodyPost_ret (results_cell_tmp rfl _ _ _ rfl w.heap.size _ _ _ rfl (HDw3.out.three _ _ _) Tryd.underlying53 rfl Tryd.sizePat) rfl ⟨rfl, ?_, ?_⟩
        · exact HRw3.out.stay (Stay.far HDw3.out (by decide) (grown_three _ _ _ _ _)) (Stay.far HDw3.out (by decide) (grown_three _ _ _ _ _))
        · exact grown_new (grown_new (grown_new HGw3.out (by simp) _) (by simp) _) (by simp) _
      · have e : Rd.pattern ms = .ok ⟨[], (Rd.hd ms).text, false⟩ ms.tail := by unfold Rd.pattern; rw [if_neg h3, if_pos h4, if_neg h5]
        rw [e]
        have V5 := Lib.hid (takeV_no h5)
        have R5 := Lib.hid (takeR_no h5)
        clear e h3 h4 h5
        generalize (Rd.hd ms).text = T at V4 ⊢
        simp only [Rd.Res.two, Rd.Res.rest, patV]
        go_enter Tryd.func107, Tryd.ntmps107
        go_wp2_with fail
        refine (take_any 3 (by omega) g x ms _ HA.out).mono ?_
        rw [V3.out, R3.out]
        rintro e w1 ⟨rfl, hr, hg⟩
        have hsw1 := hg.size
        have HRw1 := Lib.hid hr
        have HDw1 := Lib.hid (HDA.out.grown hg (by simp; omega))
        have HGw1 := Lib.hid (grown_trans HGA.out hg)
        clear hr hg
        go_wp2_with fail
        refine (take_any 4 (by omega) g x ms _ HRw1.out).mono ?_
        rw [V4.out, R4.out]
        rintro e w2 ⟨rfl, hr, hg⟩
        have hsw2 := hg.size
        have HRw2 := Lib.hid hr
        have HDw2 := Lib.hid (HDw1.out.grown hg (by simp; omega))
        have HGw2 := Lib.hid (grown_trans HGw1.out hg)
        clear hr hg
        go_wp2_with fail
        refine (take_any 5 (by omega) g x ms.tail _ HRw2.out).mono ?_
        rw [V5.out, R5.out]
        rintro e w3 ⟨rfl, hr, hg⟩
        have hsw3 := hg.size
        have HRw3 := Lib.hid hr
        have HDw3 := Lib.hid (HDw2.out.grown hg (by simp; omega))
        have HGw3 := Lib.hid (grown_trans HGw2.out hg)
        clear hr hg
        have d0 := HDw3.out.cell 0
        have d1 := HDw3.out.cell 1
        have d2 := HDw3.out.cell 2
        have df := HDw3.out.frozen
        simp only [List.getElem?_toArray, List.getElem?_cons_zero, List.getElem?_cons_succ] at d0 d1 d2
        go_wp2_with fail
        refine bodyPost_ret (results_cell_tmp rfl _ _ _ rfl w.heap.size _ _ _ rfl (HDw3.out.three _ _ _) Tryd.underlying53 rfl Tryd.sizePat) rfl ⟨rfl, ?_, ?_⟩
        · exact HRw3.out.stay (Stay.far HDw3.out (by decide) (grown_three _ _ _ _ _)) (Stay.far HDw3.out (by decide) (grown_three _ _ _ _ _))
        · exact grown_new (grown_new (grown_new HGw3.out (by simp) _) (by simp) _) (by simp) _
    · have V4 := Lib.hid (takeV_no h4)
      have R4 := Lib.hid (takeR_no h4)
      have e : Rd.pattern ms = .bad 14 ms := by unfold Rd.pattern; rw [if_neg h3, if_neg h4]
      rw [e]
      clear e h3 h4
      simp only [Rd.Res.two, Rd.Res.rest, patV, noPat]
      go_enter Tryd.func107, Tryd.ntmps107
      go_wp2_with fail
      refine (take_any 3 (by omega) g x ms _ HA.out).mono ?_
      rw [V3.out, R3.out]
      rintro e w1 ⟨rfl, hr, hg⟩
      have hsw1 := hg.size
      have HRw1 := Lib.hid hr
      have HDw1 := Lib.hid (HDA.out.grown hg (by simp; omega))
      have HGw1 := Lib.hid (grown_trans HGA.out hg)
      clear hr hg
      go_wp2_with fail
      refine (take_any 4 (by omega) g x ms _ HRw1.out).mono ?_
      rw [V4.out, R4.out]
      rintro e w2 ⟨rfl, hr, hg⟩
      have hsw2 := hg.size
      have HRw2 := Lib.hid hr
      have HDw2 := Lib.hid (HDw1.out.grown hg (by simp; omega))
      have HGw2 := Lib.hid (grown_trans HGw1.out hg)
      clear hr hg
      have d0 := HDw2.out.cell 0
      have d1 := HDw2.out.cell 1
      have d2 := HDw2.out.cell 2
      have df := HDw2.out.frozen
      simp only [List.getElem?_toArray, List.getElem?_cons_zero, List.getElem?_cons_succ] at d0 d1 d2
      go_wp2_with fail
      refine bodyPost_ret (results_cell_tmp rfl _ _ _ rfl w.heap.size _ _ _ rfl (HDw2.out.three _ _ _) Tryd.underlying53 rfl Tryd.sizePat) rfl ⟨rfl, ?_, ?_⟩
      · exact HRw2.out.stay (Stay.far HDw2.out (by decide) (grown_three _ _ _ _ _)) (Stay.far HDw2.out (by decide) (grown_three _ _ _ _ _))
      · exact grown_new (grown_new (grown_new HGw2.out (by simp) _) (by simp) _) (by simp) _

end Go.Proofs.YtgmihbfikggkjaaDoor
