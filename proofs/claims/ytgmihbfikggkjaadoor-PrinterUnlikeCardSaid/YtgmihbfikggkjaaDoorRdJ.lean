/-
  The walks of a reading's rule, rules.
-/
import Derived.Test.YtgmihbfikggkjaaDoorRdI
namespace Go.Proofs.YtgmihbfikggkjaaDoor
open Go.RowKit
open Lx
set_option linter.unusedVariables false
set_option linter.unusedSimpArgs false
set_option maxRecDepth 100000

theorem field_kind (m : Mk) (w : World) : (Instr.field 55 (.agg #[.int .i64 (m.kind : Int), .string (str m.text), .int .i64 (m.line : Int), .int .i64 (m.col : Int)]) 0).run Tryd.prog w = .ok (.int .i64 (m.kind : Int)) w := by kernel_rfl
theorem field_at (m : Mk) (w : World) : (Instr.field 55 (.agg #[.int .i64 (m.kind : Int), .string (str m.text), .int .i64 (m.line : Int), .int .i64 (m.col : Int)]) 2).run Tryd.prog w = .ok (.agg #[.int .i64 (m.line : Int), .int .i64 (m.col : Int)]) w := by kernel_rfl

theorem alts_bad {f c : Nat} {left : Rd.Name} {acc : List Rd.Rule} {ms r : List Mk} (hf : 0 < f) (h : Rd.alt left acc.length ms = .bad c r) : Rd.alts f left acc ms = .bad c r := by
  cases f with
  | zero => omega
  | succ f => unfold Rd.alts; rw [h]
theorem alts_ok {f : Nat} {left : Rd.Name} {acc : List Rd.Rule} {ms r : List Mk} {x : Rd.Rule} (hf : 0 < f) (h : Rd.alt left acc.length ms = .ok x r) :
    Rd.alts f left acc ms = if (Rd.hd r).kind = 8 then .ok (acc ++ [x]) r.tail else if (Rd.hd r).kind = 7 then Rd.alts (f - 1) left (acc ++ [x]) r.tail else .bad 14 r := by
  cases f with
  | zero => omega
  | succ f => conv => lhs; unfold Rd.alts
              rw [h]; rfl
theorem rules_bad {f c : Nat} {acc : List Rd.Rule} {ms r : List Mk} (hf : 0 < f) (h : Rd.rule acc ms = .bad c r) : Rd.rules f acc ms = .bad c r := by
  cases f with
  | zero => omega
  | succ f => unfold Rd.rules; rw [h]
theorem rules_ok {f : Nat} {acc acc' : List Rd.Rule} {ms r : List Mk} (hf : 0 < f) (h : Rd.rule acc ms = .ok acc' r) :
    Rd.rules f acc ms = if (Rd.hd r).kind = 0 then .ok acc' r else Rd.rules (f - 1) acc' r := by
  cases f with
  | zero => omega
  | succ f => conv => lhs; unfold Rd.rules
              rw [h]; rfl
theorem rights_code {acc : List Rd.Name} {ms : List Mk} {c : Nat} {r : List Mk} : Rd.rights ms acc = .bad c r → c = 3 := by
  fun_induction Rd.rights ms acc
  all_goals first
    | (intro h; cases h; done)
    | (intro h; cases h; rfl)
    | (rename_i ih; exact ih)
theorem alt_code {left : Rd.Name} {n c : Nat} {ms r : List Mk} (h : Rd.alt left n ms = .bad c r) : c ≠ 0 := by
  unfold Rd.alt at h
  split at h
  · cases h; decide
  · cases hr : Rd.rights ms [] with
    | bad e r' =>
      rw [hr] at h
      cases h
      rw [rights_code hr]; decide
    | ok l r' =>
      rw [hr] at h
      simp only [] at h
      cases hp : Rd.prec r' with
      | bad e r2 =>
        rw [hp] at h
        cases h
        unfold Rd.prec at hp
        repeat' split at hp
        all_goals first
          | (cases hp; done)
          | (cases hp; decide)
      | ok p r2 =>
        rw [hp] at h
        simp only [] at h
        unfold Rd.action at h
        split at h <;> cases h
theorem alts_code {f c : Nat} {left : Rd.Name} {acc : List Rd.Rule} {ms r : List Mk} (h : Rd.alts f left acc ms = .bad c r) : c ≠ 0 := by
  induction f generalizing acc ms with
  | zero => unfold Rd.alts at h; cases h; decide
  | succ f ih =>
    unfold Rd.alts at h
    cases ha : Rd.alt left acc.length ms with
    | bad e r' =>
      rw [ha] at h
      cases h
      exact alt_code ha
    | ok x r' =>
      rw [ha] at h
      simp only [] at h
      split at h
      · cases h
      · split at h
        · exact ih h
        · cases h; decide
theorem rule_code {acc : List Rd.Rule} {c : Nat} {ms r : List Mk} (h : Rd.rule acc ms = .bad c r) : c ≠ 0 := by
  unfold Rd.rule at h
  split at h
  · cases h; decide
  · split at h
    · cases h; decide
    · exact alts_code h

theorem RdAt.moved {w w' : World} {B g m : Nat} {d : Rd.Decls} {rs : List Rd.Rule} {lev : List Rd.Name} {ms ms' : List Mk} {x : Tl} (hr : Rest w g x ms) (hb : Body w B x d rs lev) (hm : x.m = m) (hB : B ≤ g) (hs : Small d rs lev ms) (hr' : Rest w' g x ms') (hg : w.grownBy w' (some g)) (hl : ms'.length ≤ ms.length) :
    RdAt w' B g m d rs lev ms' ∧ Fr B m w w' := by
  obtain ⟨cs, hat⟩ := hr.at_
  refine ⟨⟨⟨x, hr', hb.far hat hg, hm⟩, hB, ?_⟩, Fr.at_ hat hg hB⟩
  obtain ⟨q1, q2, q3, q4, q5⟩ := hs
  exact ⟨q1, q2, q3, q4, by omega⟩
theorem takeR_le (k : Nat) (ms : List Mk) : (takeR k ms).length ≤ ms.length := by unfold takeR; split <;> simp
/-- take, at all of a reading. -/
theorem take_all (k : Nat) (hk : 1 ≤ k) (B g m : Nat) (d : Rd.Decls) (rs : List Rd.Rule) (lev : List Rd.Name) (ms : List Mk) (w : World) (hr : RdAt w B g m d rs lev ms) :
    Calls Tryd.prog 93 #[.pointer (some ⟨g, 0, none⟩), .int .i64 (k : Int)] w fun e w' => e = .returned (takeV k ms) ∧ RdAt w' B g m d rs lev (takeR k ms) ∧ Fr B m w w' := by
  obtain ⟨x, h1, h2, h3⟩ := hr.ex
  refine (take_any k hk g x ms w h1).mono ?_
  rintro e w' ⟨rfl, hr', hg⟩
  obtain ⟨q1, q2⟩ := RdAt.moved h1 h2 h3 hr.base hr.small hr' hg (takeR_le k ms)
  exact ⟨rfl, q1, q2⟩
theorem RdAt.rest {w : World} {B g m : Nat} {d : Rd.Decls} {rs : List Rd.Rule} {lev : List Rd.Name} {ms : List Mk} (h : RdAt w B g m d rs lev ms) : ∃ x, Rest w g x ms := by obtain ⟨x, h1, _⟩ := h.ex; exact ⟨x, h1⟩
theorem RdAt.count {w : World} {B g m : Nat} {d : Rd.Decls} {rs : List Rd.Rule} {lev : List Rd.Name} {ms : List Mk} (h : RdAt w B g m d rs lev ms) : restLen w g = ms.length := by obtain ⟨x, h1, _⟩ := h.ex; exact h1.count

set_option maxHeartbeats 4000000 in
theorem rule_any (B g m : Nat) (d : Rd.Decls) (rs : List Rd.Rule) (lev : List Rd.Name) (ms : List Mk) (w : World) (hr : RdAt w B g m d rs lev ms) :
    Calls Tryd.prog 61 #[.pointer (some ⟨g, 0, none⟩)] w fun e w' => ToldR B g m d lev (Rd.rule rs ms) e w' ∧ Fr B m w w' := by
  have HR := Lib.hid hr
  have HF := Lib.hid (Fr.refl B m w)
  clear hr
  by_cases h1 : (Rd.hd ms).kind = 1
  · have V1 := Lib.hid (takeV_yes h1)
    have R1 := Lib.hid (takeR_yes h1)
    by_cases h6 : (Rd.hd ms.tail).kind = 6
    · have V6 := Lib.hid (takeV_yes h6)
      have R6 := Lib.hid (takeR_yes h6)
      have e : Rd.rule rs ms = Rd.alts (ms.length + 1) (Rd.hd ms).text rs ms.tail.tail := by unfold Rd.rule; rw [if_neg (by simp [h1]), if_neg (by simp [h6])]
      have hlen : ms.tail.tail.length < ms.length + 1 := by simp; omega
      obtain ⟨RES, hRES⟩ : ∃ RES, Rd.rule rs ms = RES := ⟨_, rfl⟩
      rw [hRES] at e ⊢
      have HRES := Lib.hid e.symm
      have HL := Lib.hid hlen
      clear e h1 h6 hRES hlen
      generalize (Rd.hd ms).text = left at V1 HRES
      generalize (Rd.hd ms.tail).text = T6 at V6
      go_enter Tryd.func61, Tryd.ntmps61
      go_wp2_with fail
      refine (take_all 1 (by omega) B g m d rs lev ms _ HR.out).mono ?_
      rw [V1.out, R1.out]
      rintro e w1 ⟨rfl, hr, hf⟩
      have HRw1 := Lib.hid hr
      have HFw1 := Lib.hid (HF.out.trans hf)
      clear hr hf
      go_wp2_with fail
      refine (take_all 6 (by omega) B g m d rs lev ms.tail _ HRw1.out).mono ?_
      rw [V6.out, R6.out]
      rintro e w2 ⟨rfl, hr, hf⟩
      have HRw2 := Lib.hid hr
      have HFw2 := Lib.hid (HFw1.out.trans hf)
      clear hr hf
      go_wp2_with fail
      go_loopw [7] (fun _ wr => ∃ (acc : List Rd.Rule) (rest : List Mk) (f : Nat), RdAt wr B g m d acc lev rest ∧ Rd.alts f left acc rest = RES ∧ rest.length < f ∧ Fr B m w wr) (fun _ wr => restLen wr g)
      case atStart => exact ⟨rs, ms.tail.tail, ms.length + 1, HRw2.out, HRES.out, HL.out, HFw2.out⟩
      case round =>
        obtain ⟨acc, rest, f, hr, hd, hf, hfr⟩ := hrel
        have HR0 := Lib.hid hr
        have HD := Lib.hid hd
        have HFR := Lib.hid hfr
        have hf0 : 0 < f := by omega
        clear hr hd hfr
        cases ha : Rd.alt left acc.length rest with
        | bad c r =>
          have hc0 := alt_code ha
          have c1 : ((c : Int) != 0) = true := by rw [bne_iff_ne]; omega
          have c2 : (c != 0) = true := by rw [bne_iff_ne]; omega
          have HA := Lib.hid ha
          have HE := Lib.hid (show RES = .bad c r by rw [← HD.out]; exact alts_bad hf0 ha)
          clear ha hc0
          go_wp2_with fail
          refine (alt_any left B g m d acc lev rest _ HR0.out).mono ?_
          rw [HA.out]
          rintro e w5 ⟨⟨rfl, h5⟩, hf5⟩
          have H5 := Lib.hid h5
          have HF5 := Lib.hid (HFR.out.trans hf5)
          clear h5 hf5
          go_wp2_with fail
          go_ret
          refine ⟨?_, HF5.out⟩
          rw [HE.out]
          exact ⟨rfl, H5.out⟩
        | ok x r =>
          have HA := Lib.hid ha
          have HE := Lib.hid (HD.out.symm.trans (alts_ok hf0 ha))
          have hmost := Rd.alt_most left acc.length rest
          rw [ha] at hmost
          have hmost' : r.length ≤ rest.length := hmost
          have HM := Lib.hid hmost'
          clear ha hmost hmost'
          by_cases h8 : (Rd.hd r).kind = 8
          · have V8 := Lib.hid (takeV_yes h8)
            have R8 := Lib.hid (takeR_yes h8)
            have he := HE.out
            rw [if_pos h8] at he
            have HE8 := Lib.hid he
            clear h8 he
            generalize (Rd.hd r).text = T8 at V8
            go_wp2_with fail
            refine (alt_any left B g m d acc lev rest _ HR0.out).mono ?_
            rw [HA.out]
            rintro e w5 ⟨⟨rfl, h5⟩, hf5⟩
            have H5 := Lib.hid h5
            have HF5 := Lib.hid (HFR.out.trans hf5)
            clear h5 hf5
            go_wp2_with fail
            refine (take_all 8 (by omega) B g m d (acc ++ [x]) lev r _ H5.out).mono ?_
            rw [V8.out, R8.out]
            rintro e w6 ⟨rfl, hr, hf⟩
            have HRw6 := Lib.hid hr
            have HFw6 := Lib.hid (HF5.out.trans hf)
            clear hr hf
            go_wp2_with fail
            go_ret
            refine ⟨?_, HFw6.out⟩
            rw [HE8.out]
            exact ⟨rfl, HRw6.out⟩
          · have V8 := Lib.hid (takeV_no h8)
            have R8 := Lib.hid (takeR_no h8)
            by_cases h7 : (Rd.hd r).kind = 7
            · have V7 := Lib.hid (takeV_yes h7)
              have R7 := Lib.hid (takeR_yes h7)
              have he := HE.out
              rw [if_neg h8, if_pos h7] at he
              have HE7 := Lib.hid he
              have hlt := Rd.hd_lt (ms := r) (by omega)
              have HLT := Lib.hid hlt
              clear h8 h7 he hlt
              generalize (Rd.hd r).text = T7 at V7
              go_wp2_with fail
              refine (alt_any left B g m d acc lev rest _ HR0.out).mono ?_
              rw [HA.out]
              rintro e w5 ⟨⟨rfl, h5⟩, hf5⟩
              have H5 := Lib.hid h5
              have HF5 := Lib.hid (HFR.out.trans hf5)
              clear h5 hf5
              go_wp2_with fail
              refine (take_all 8 (by omega) B g m d (acc ++ [x]) lev r _ H5.out).mono ?_
              rw [V8.out, R8.out]
              rintro e w6 ⟨rfl, hr, hf⟩
              have HRw6 := Lib.hid hr
              have HFw6 := Lib.hid (HF5.out.trans hf)
              clear hr hf
              go_wp2_with fail
              refine (take_all 7 (by omega) B g m d (acc ++ [x]) lev r _ HRw6.out).mono ?_
              rw [V7.out, R7.out]
              rintro e w7 ⟨rfl, hr, hf⟩
              have HRw7 := Lib.hid hr
              have HFw7 := Lib.hid (HFw6.out.trans hf)
              clear hr hf
              go_wp2_with fail
              go_roundw
              case rel => exact ⟨acc ++ [x], r.tail, f - 1, HRw7.out, HE7.out.symm, by have := HLT.out; have := HM.out; omega, HFw7.out⟩
              case measure =>
                have h1 := HRw7.out.count
                have h2 := HR0.out.count
                have h3 := HLT.out
                have h4 := HM.out
                rw [h1, h2]; omega
            · have V7 := Lib.hid (takeV_no h7)
              have R7 := Lib.hid (takeR_no h7)
              have he := HE.out
              rw [if_neg h8, if_neg h7] at he
              have HE7 := Lib.hid he
              clear h8 h7 he
              go_wp2_with fail
              refine (alt_any left B g m d acc lev rest _ HR0.out).mono ?_
              rw [HA.out]
              rintro e w5 ⟨⟨rfl, h5⟩, hf5⟩
              have H5 := Lib.hid h5
              have HF5 := Lib.hid (HFR.out.trans hf5)
              clear h5 hf5
              go_wp2_with fail
              refine (take_all 8 (by omega) B g m d (acc ++ [x]) lev r _ H5.out).mono ?_
              rw [V8.out, R8.out]
              rintro e w6 ⟨rfl, hr, hf⟩
              have HRw6 := Lib.hid hr
              have HFw6 := Lib.hid (HF5.out.trans hf)
              clear hr hf
              go_wp2_with fail
              refine (take_all 7 (by omega) B g m d (acc ++ [x]) lev r _ HRw6.out).mono ?_
              rw [V7.out, R7.out]
              rintro e w7 ⟨rfl, hr, hf⟩
              have HRw7 := Lib.hid hr
              have HFw7 := Lib.hid (HFw6.out.trans hf)
              clear hr hf
              go_wp2_with fail
              go_ret
              refine ⟨?_, HFw7.out⟩
              rw [HE7.out]
              exact ⟨rfl, HRw7.out.rest⟩
    · have V6 := Lib.hid (takeV_no h6)
      have R6 := Lib.hid (takeR_no h6)
      have e : Rd.rule rs ms = .bad 14 ms.tail := by unfold Rd.rule; rw [if_neg (by simp [h1]), if_pos h6]
      rw [e]
      clear e h1 h6
      generalize (Rd.hd ms).text = left at V1
      go_enter Tryd.func61, Tryd.ntmps61
      go_wp2_with fail
      refine (take_all 1 (by omega) B g m d rs lev ms _ HR.out).mono ?_
      rw [V1.out, R1.out]
      rintro e w1 ⟨rfl, hr, hf⟩
      have HRw1 := Lib.hid hr
      have HFw1 := Lib.hid (HF.out.trans hf)
      clear hr hf
      go_wp2_with fail
      refine (take_all 6 (by omega) B g m d rs lev ms.tail _ HRw1.out).mono ?_
      rw [V6.out, R6.out]
      rintro e w2 ⟨rfl, hr, hf⟩
      have HRw2 := Lib.hid hr
      have HFw2 := Lib.hid (HFw1.out.trans hf)
      clear hr hf
      go_wp2_with fail
      go_ret
      exact ⟨⟨rfl, HRw2.out.rest⟩, HFw2.out⟩
  · have V1 := Lib.hid (takeV_no h1)
    have R1 := Lib.hid (takeR_no h1)
    have e : Rd.rule rs ms = .bad 14 ms := by unfold Rd.rule; rw [if_pos h1]
    rw [e]
    clear e h1
    go_enter Tryd.func61, Tryd.ntmps61
    go_wp2_with fail
    refine (take_all 1 (by omega) B g m d rs lev ms _ HR.out).mono ?_
    rw [V1.out, R1.out]
    rintro e w1 ⟨rfl, hr, hf⟩
    have HRw1 := Lib.hid hr
    have HFw1 := Lib.hid (HF.out.trans hf)
    clear hr hf
    go_wp2_with fail
    go_ret
    exact ⟨⟨rfl, HRw1.out.rest⟩, HFw1.out⟩

set_option maxHeartbeats 4000000 in
theorem rules_any (B g m : Nat) (d : Rd.Decls) (rs : List Rd.Rule) (lev : List Rd.Name) (ms : List Mk) (w : World) (hr : RdAt w B g m d rs lev ms) :
    Calls Tryd.prog 30 #[.pointer (some ⟨g, 0, none⟩)] w fun e w' => ToldR B g m d lev (Rd.rules (ms.length + 1) rs ms) e w' ∧ Fr B m w w' := by
  have HR := Lib.hid hr
  clear hr
  obtain ⟨RES, hRES⟩ : ∃ RES, Rd.rules (ms.length + 1) rs ms = RES := ⟨_, rfl⟩
  rw [hRES]
  have HRES := Lib.hid hRES
  clear hRES
  go_enter Tryd.func30, Tryd.ntmps30
  go_wp2_with fail
  go_loopw [3] (fun _ wr => ∃ (acc : List Rd.Rule) (rest : List Mk) (f : Nat), RdAt wr B g m d acc lev rest ∧ Rd.rules f acc rest = RES ∧ rest.length < f ∧ Fr B m w wr) (fun _ wr => restLen wr g)
  case atStart => exact ⟨rs, ms, ms.length + 1, HR.out, HRES.out, by omega, Fr.refl _ _ _⟩
  case round =>
    obtain ⟨acc, rest, f, hr, hd, hf, hfr⟩ := hrel
    have HR0 := Lib.hid hr
    have HD := Lib.hid hd
    have HFR := Lib.hid hfr
    have hf0 : 0 < f := by omega
    clear hr hd hfr
    cases ha : Rd.rule acc rest with
    | bad c r =>
      have hc0 := rule_code ha
      have c1 : ((c : Int) != 0) = true := by rw [bne_iff_ne]; omega
      have c2 : (c != 0) = true := by rw [bne_iff_ne]; omega
      have HA := Lib.hid ha
      have HE := Lib.hid (show RES = .bad c r by rw [← HD.out]; exact rules_bad hf0 ha)
      clear ha hc0
      go_wp2_with fail
      refine (rule_any B g m d acc lev rest _ HR0.out).mono ?_
      rw [HA.out]
      rintro e w5 ⟨⟨rfl, h5⟩, hf5⟩
      have H5 := Lib.hid h5
      have HF5 := Lib.hid (HFR.out.trans hf5)
      clear h5 hf5
      go_wp2_with fail
      go_ret
      refine ⟨?_, HF5.out⟩
      rw [HE.out]
      exact ⟨rfl, H5.out⟩
    | ok acc' r =>
      have HA := Lib.hid ha
      have HE := Lib.hid (HD.out.symm.trans (rules_ok hf0 ha))
      have hless := Rd.rule_less acc rest
      rw [ha] at hless
      have hless' : r.length < rest.length := hless
      have HLS := Lib.hid hless'
      clear ha hless hless'
      obtain ⟨M, hM⟩ : ∃ M, Rd.hd r = M := ⟨_, rfl⟩
      have HM := Lib.hid hM
      have hfk := field_kind M
      by_cases h0 : M.kind = 0
      · have he := HE.out
        rw [hM, if_pos h0] at he
        have HE0 := Lib.hid he
        have k1 : ((M.kind : Int) == 0) = true := by rw [beq_iff_eq]; omega
        have k2 : (M.kind == 0) = true := by rw [beq_iff_eq]; omega
        clear h0 he hM
        go_wp2_with fail
        refine (rule_any B g m d acc lev rest _ HR0.out).mono ?_
        rw [HA.out]
        rintro e w5 ⟨⟨rfl, h5⟩, hf5⟩
        have H5 := Lib.hid h5
        have HF5 := Lib.hid (HFR.out.trans hf5)
        clear h5 hf5
        go_wp2_with fail
        obtain ⟨x, hx⟩ := H5.out.rest
        refine (here_any g x r _ hx).mono ?_
        rw [HM.out]
        rintro e w6 ⟨rfl, hb6⟩
        have H6 := Lib.hid (H5.out.below hb6)
        have HF6 := Lib.hid (HF5.out.trans (Fr.of_below hb6 (by have := hx.lt; have := H5.out.base; omega)))
        clear hb6 hx
        unfold Mk.val
        go_wp2_with fail
        go_ret
        refine ⟨?_, HF6.out⟩
        rw [HE0.out]
        exact ⟨rfl, H6.out⟩
      · have he := HE.out
        rw [hM, if_neg h0] at he
        have HE0 := Lib.hid he
        have k1 : ((M.kind : Int) == 0) = false := by rw [beq_eq_false_iff_ne]; omega
        have k2 : (M.kind == 0) = false := by rw [beq_eq_false_iff_ne]; omega
        clear h0 he hM
        go_wp2_with fail
        refine (rule_any B g m d acc lev rest _ HR0.out).mono ?_
        rw [HA.out]
        rintro e w5 ⟨⟨rfl, h5⟩, hf5⟩
        have H5 := Lib.hid h5
        have HF5 := Lib.hid (HFR.out.trans hf5)
        clear h5 hf5
        go_wp2_with fail
        obtain ⟨x, hx⟩ := H5.out.rest
        refine (here_any g x r _ hx).mono ?_
        rw [HM.out]
        rintro e w6 ⟨rfl, hb6⟩
        have H6 := Lib.hid (H5.out.below hb6)
        have HF6 := Lib.hid (HF5.out.trans (Fr.of_below hb6 (by have := hx.lt; have := H5.out.base; omega)))
        clear hb6 hx
        unfold Mk.val
        go_wp2_with fail
        go_roundw
        case rel => exact ⟨acc', r, f - 1, H6.out, HE0.out.symm, by have := HLS.out; omega, HF6.out⟩
        case measure =>
          have h1 := H6.out.count
          have h2 := HR0.out.count
          have h3 := HLS.out
          rw [h1, h2]; exact h3

end Go.Proofs.YtgmihbfikggkjaaDoor
