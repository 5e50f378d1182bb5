/-
  The walk of a reading's declarations.
-/
import Derived.Test.YtgmihbfikggkjaaDoorRdG
import Derived.Test.YtgmihbfikggkjaaDoorRdJ
namespace Go.Proofs.YtgmihbfikggkjaaDoor
open Go.RowKit
open Lx
set_option linter.unusedVariables false
set_option linter.unusedSimpArgs false
set_option maxRecDepth 100000


theorem field_text (m : Mk) (w : World) : (Instr.field 55 (.agg #[.int .i64 (m.kind : Int), .string (str m.text), .int .i64 (m.line : Int), .int .i64 (m.col : Int)]) 1).run Tryd.prog w = .ok (.string (str m.text)) w := by kernel_rfl


set_option maxHeartbeats 8000000 in
theorem declarations_any (B g m : Nat) (d : Rd.Decls) (ms : List Mk) (w : World) (hr : RdAt w B g m d [] (Rd.levelled d) ms) :
    Calls Tryd.prog 29 #[.pointer (some ⟨g, 0, none⟩)] w fun e w' => Told B g m (Rd.decls (ms.length + 1) d ms) e w' ∧ Fr B m w w' := by
  obtain ⟨x, hre, hbo, rfl⟩ := hr.ex
  have hB := hr.base
  have HRA := Lib.hid hr
  have hlt := hre.lt
  have hml := hbo.set_.lt
  clear hr hre hbo
  obtain ⟨RES, hRES⟩ : ∃ RES, Rd.decls (ms.length + 1) d ms = RES := ⟨_, rfl⟩
  have HRES := Lib.hid hRES
  clear hRES
  go_enter Tryd.func29, Tryd.ntmps29
  go_wp2_with fail
  refine (declares_any w).mono ?_
  rintro e w1 ⟨rfl, hfn, hb1⟩
  obtain ⟨all, hall⟩ : ∃ all, w.heap.size = all := ⟨_, rfl⟩
  have hneq : all ≠ x.m := by omega
  have HA1 := Lib.hid hfn
  have HR1 := Lib.hid (HRA.out.below hb1)
  have HF1 := Lib.hid (Fr.of_below (m := x.m) hb1 (by omega) (B := B))
  have hBw : B ≤ w.heap.size := by omega
  rw [hall] at HA1 ⊢
  clear hfn hb1 hall
  go_wp2_with fail
  go_loopw [4] (fun _ wr => ∃ (d' : Rd.Decls) (rest : List Mk) (f : Nat), RdAt wr B g x.m d' [] (Rd.levelled d') rest ∧ Rd.decls f d' rest = RES ∧ rest.length < f ∧ HasFns wr all ∧ Fr B x.m w wr) (fun _ wr => restLen wr g)
  case atStart => exact ⟨d, ms, ms.length + 1, HR1.out, HRES.out, by omega, HA1.out, HF1.out⟩
  case round =>
    obtain ⟨d', rest, f, hr, hd, hf, ha, hfr⟩ := hrel
    have HR0 := Lib.hid hr
    have HD := Lib.hid hd
    have HA := Lib.hid ha
    have HFR := Lib.hid hfr
    have hf0 : 0 < f := by omega
    obtain ⟨y, hrest, hbody, hym⟩ := hr.ex
    have HRT := Lib.hid hrest
    have HBY := Lib.hid hbody
    have HYM := Lib.hid hym
    have hsane := hd_sane hrest.len
    obtain ⟨M, hM⟩ : ∃ M, Rd.hd rest = M := ⟨_, rfl⟩
    rw [hM] at hsane
    have HMM := Lib.hid hM
    have hfk := field_kind M
    have hft := field_text M
    have hsr : w.heap.size ≤ wr.heap.size := hfr.below.size
    clear hr hd ha hfr hrest hbody hym
    cases hw : Rd.isWord [37] M with
    | true =>
      have hrne : rest ≠ [] := by
        rintro rfl
        rw [Rd.hd_nil] at hM
        subst hM
        simp [Rd.isWord] at hw
      have HW := Lib.hid hw
      have HDW := Lib.hid (decls_word (d := d') (ms := rest) hf0 (by rw [hM]; exact hw))
      clear hw hM
      go_wp2_with fail
      refine (word_is [37] g y rest _ HRT.out).mono ?_
      rw [HMM.out, HW.out]
      rintro e w2 ⟨rfl, hb2⟩
      have HR2 := Lib.hid (HRT.out.below hb2)
      have HB2 := Lib.hid (HBY.out.below hb2)
      have HF2 := Lib.hid (HFR.out.trans (Fr.of_below hb2 (by omega)))
      clear hb2
      go_wp2_with fail
      refine (next_any g y rest _ HR2.out hrne).mono ?_
      rintro e w3 ⟨rfl, hr3, hg3⟩
      obtain ⟨cs, hat⟩ := HR2.out.at_
      have HF3 := Lib.hid (HF2.out.trans (Fr.at_ hat hg3 hB))
      have HR3 := Lib.hid hr3
      have HB3 := Lib.hid (HB2.out.far hat hg3)
      clear hr3 hg3 hat
      go_wp2_with fail
      go_ret
      refine ⟨?_, HF3.out⟩
      rw [HRES.out, ← HD.out, HDW.out]
      refine ⟨rfl, ⟨y, HR3.out, HB3.out, HYM.out⟩, hB, ?_⟩
      obtain ⟨q1, q2, q3, q4, q5⟩ := HR0.out.small
      exact ⟨q1, q2, q3, q4, by simp; omega⟩
    | false =>
      have HW := Lib.hid hw
      clear hw hM
      go_wp2_with fail
      refine (word_is [37] g y rest _ HRT.out).mono ?_
      rw [HMM.out, HW.out]
      rintro e w2 ⟨rfl, hb2⟩
      have HR2 := Lib.hid (HRT.out.below hb2)
      have HB2 := Lib.hid hb2
      have hs2 := hb2.size
      clear hb2
      go_wp2_with fail
      refine (here_any g y rest _ HR2.out).mono ?_
      rw [HMM.out]
      rintro e w3 ⟨rfl, hb3⟩
      have HR3 := Lib.hid (HR2.out.below hb3)
      have HB3 := Lib.hid (HB2.out.trans (hb3.mono hs2))
      obtain ⟨v, ps, hrun, hv⟩ := (HA.out.below HB3.out).look M.text hsane
      clear hb3
      unfold Mk.val
      go_wp2_with fail
      refine (here_any g y rest _ HR3.out).mono ?_
      rw [HMM.out]
      rintro e w4 ⟨rfl, hb4⟩
      have hb5 := HB3.out.trans (hb4.mono HB3.out.size)
      have HR4 := Lib.hid (HR0.out.below hb5)
      have HF4 := Lib.hid (HFR.out.trans (Fr.of_below hb5 (by omega)))
      have HA4 := Lib.hid (HA.out.below hb5)
      clear hb4 hb5 hrun
      unfold Mk.val
      by_cases h2 : M.kind = 2
      · have k1 : ((M.kind : Int) != 2) = false := by rw [bne_eq_false_iff_eq]; omega
        have k2 : (M.kind != 2) = false := by rw [bne_eq_false_iff_eq]; omega
        have H2 := Lib.hid h2
        have hrne : rest ≠ [] := ne_of_kind (k := 2) (by rw [HMM.out]; exact h2) (by omega)
        clear h2
        obtain ⟨K, hK⟩ : ∃ K, Rd.wordNo M.text = K := ⟨_, rfl⟩
        have HK := Lib.hid hK
        rw [hK] at hv ⊢
        clear hK
        match K, HK, hv with
        | 0, HK, hv =>
          · have hv' := fnElem_inv (f := 87) hv
            have hdd : Rd.decl d' rest = Rd.token d' rest := by unfold Rd.decl; rw [HMM.out, if_pos H2.out, HK.out]; rfl
            have HDD := Lib.hid hdd
            have hkd : decide (((0 : Nat)) < 6) = true := by decide
            subst hv'
            clear hdd hv
            cases hres : Rd.token d' rest with
            | bad c r =>
              have hc0 : c ≠ 0 := decl_code (HDD.out.trans hres)
              have c1 : ((c : Int) != 0) = true := by rw [bne_iff_ne]; omega
              have c2 : (c != 0) = true := by rw [bne_iff_ne]; omega
              have HRS := Lib.hid hres
              have HBD := Lib.hid (show Rd.decls (ms.length + 1) d ms = .bad c r by rw [HRES.out, ← HD.out]; exact decls_bad hf0 (by rw [HMM.out]; exact HW.out) (HDD.out.trans hres))
              clear hres hc0
              go_wp2_with fail
              refine (token_any B g x.m d' rest _ HR4.out hrne).mono ?_
              rw [HRS.out]
              rintro e w5 ⟨⟨rfl, h5⟩, hf5⟩
              have H5 := Lib.hid h5
              have HF5 := Lib.hid (HF4.out.trans hf5)
              clear h5 hf5
              go_wp2_with fail
              go_ret
              refine ⟨?_, HF5.out⟩
              rw [HBD.out]
              exact ⟨rfl, H5.out⟩
            | ok d2 r =>
              have HRS := Lib.hid hres
              have hless := Rd.decl_less d' rest
              rw [HDD.out, hres] at hless
              have hless' : r.length < rest.length := hless
              have HLS := Lib.hid hless'
              have HON := Lib.hid (show Rd.decls (f - 1) d2 r = RES by rw [← HD.out]; exact (decls_on hf0 (by rw [HMM.out]; exact HW.out) (HDD.out.trans hres)).symm)
              clear hres hless hless'
              go_wp2_with fail
              refine (token_any B g x.m d' rest _ HR4.out hrne).mono ?_
              rw [HRS.out]
              rintro e w5 ⟨⟨rfl, h5⟩, hf5⟩
              have H5 := Lib.hid h5
              have HF5 := Lib.hid (HF4.out.trans hf5)
              have HA5 := Lib.hid (HA4.out.fr hf5 hneq)
              clear h5 hf5
              go_wp2_with fail
              go_roundw
              case rel => exact ⟨d2, r, f - 1, H5.out, HON.out, by have := HLS.out; omega, HA5.out, HF5.out⟩
              case measure =>
                obtain ⟨x5, h5, _⟩ := H5.out.ex
                obtain ⟨x4, h4, _⟩ := HR0.out.ex
                rw [h5.count, h4.count]
                exact HLS.out
        | 1, HK, hv =>
          · have hv' := fnElem_inv (f := 88) hv
            have hdd : Rd.decl d' rest = Rd.skip d' rest := by unfold Rd.decl; rw [HMM.out, if_pos H2.out, HK.out]; rfl
            have HDD := Lib.hid hdd
            have hkd : decide (((1 : Nat)) < 6) = true := by decide
            subst hv'
            clear hdd hv
            cases hres : Rd.skip d' rest with
            | bad c r =>
              have hc0 : c ≠ 0 := decl_code (HDD.out.trans hres)
              have c1 : ((c : Int) != 0) = true := by rw [bne_iff_ne]; omega
              have c2 : (c != 0) = true := by rw [bne_iff_ne]; omega
              have HRS := Lib.hid hres
              have HBD := Lib.hid (show Rd.decls (ms.length + 1) d ms = .bad c r by rw [HRES.out, ← HD.out]; exact decls_bad hf0 (by rw [HMM.out]; exact HW.out) (HDD.out.trans hres))
              clear hres hc0
              go_wp2_with fail
              refine (skip_any B g x.m d' rest _ HR4.out hrne).mono ?_
              rw [HRS.out]
              rintro e w5 ⟨⟨rfl, h5⟩, hf5⟩
              have H5 := Lib.hid h5
              have HF5 := Lib.hid (HF4.out.trans hf5)
              clear h5 hf5
              go_wp2_with fail
              go_ret
              refine ⟨?_, HF5.out⟩
              rw [HBD.out]
              exact ⟨rfl, H5.out⟩
            | ok d2 r =>
              have HRS := Lib.hid hres
              have hless := Rd.decl_less d' rest
              rw [HDD.out, hres] at hless
              have hless' : r.length < rest.length := hless
              have HLS := Lib.hid hless'
              have HON := Lib.hid (show Rd.decls (f - 1) d2 r = RES by rw [← HD.out]; exact (decls_on hf0 (by rw [HMM.out]; exact HW.out) (HDD.out.trans hres)).symm)
              clear hres hless hless'
              go_wp2_with fail
              refine (skip_any B g x.m d' rest _ HR4.out hrne).mono ?_
              rw [HRS.out]
              rintro e w5 ⟨⟨rfl, h5⟩, hf5⟩
              have H5 := Lib.hid h5
              have HF5 := Lib.hid (HF4.out.trans hf5)
              have HA5 := Lib.hid (HA4.out.fr hf5 hneq)
              clear h5 hf5
              go_wp2_with fail
              go_roundw
              case rel => exact ⟨d2, r, f - 1, H5.out, HON.out, by have := HLS.out; omega, HA5.out, HF5.out⟩
              case measure =>
                obtain ⟨x5, h5, _⟩ := H5.out.ex
                obtain ⟨x4, h4, _⟩ := HR0.out.ex
                rw [h5.count, h4.count]
                exact HLS.out
        | 2, HK, hv =>
          · have hv' := fnElem_inv (f := 89) hv
            have hdd : Rd.decl d' rest = Rd.level 1 d' rest := by unfold Rd.decl; rw [HMM.out, if_pos H2.out, HK.out]; rfl
            have HDD := Lib.hid hdd
            have hkd : decide (((2 : Nat)) < 6) = true := by decide
            subst hv'
            clear hdd hv
            cases hres : Rd.level 1 d' rest with
            | bad c r =>
              have hc0 : c ≠ 0 := decl_code (HDD.out.trans hres)
              have c1 : ((c : Int) != 0) = true := by rw [bne_iff_ne]; omega
              have c2 : (c != 0) = true := by rw [bne_iff_ne]; omega
              have HRS := Lib.hid hres
              have HBD := Lib.hid (show Rd.decls (ms.length + 1) d ms = .bad c r by rw [HRES.out, ← HD.out]; exact decls_bad hf0 (by rw [HMM.out]; exact HW.out) (HDD.out.trans hres))
              clear hres hc0
              go_wp2_with fail
              refine (left_any B g x.m d' rest _ HR4.out hrne).mono ?_
              rw [HRS.out]
              rintro e w5 ⟨⟨rfl, h5⟩, hf5⟩
              have H5 := Lib.hid h5
              have HF5 := Lib.hid (HF4.out.trans hf5)
              clear h5 hf5
              go_wp2_with fail
              go_ret
              refine ⟨?_, HF5.out⟩
              rw [HBD.out]
              exact ⟨rfl, H5.out⟩
            | ok d2 r =>
              have HRS := Lib.hid hres
              have hless := Rd.decl_less d' rest
              rw [HDD.out, hres] at hless
              have hless' : r.length < rest.length := hless
              have HLS := Lib.hid hless'
              have HON := Lib.hid (show Rd.decls (f - 1) d2 r = RES by rw [← HD.out]; exact (decls_on hf0 (by rw [HMM.out]; exact HW.out) (HDD.out.trans hres)).symm)
              clear hres hless hless'
              go_wp2_with fail
              refine (left_any B g x.m d' rest _ HR4.out hrne).mono ?_
              rw [HRS.out]
              rintro e w5 ⟨⟨rfl, h5⟩, hf5⟩
              have H5 := Lib.hid h5
              have HF5 := Lib.hid (HF4.out.trans hf5)
              have HA5 := Lib.hid (HA4.out.fr hf5 hneq)
              clear h5 hf5
              go_wp2_with fail
              go_roundw
              case rel => exact ⟨d2, r, f - 1, H5.out, HON.out, by have := HLS.out; omega, HA5.out, HF5.out⟩
              case measure =>
                obtain ⟨x5, h5, _⟩ := H5.out.ex
                obtain ⟨x4, h4, _⟩ := HR0.out.ex
                rw [h5.count, h4.count]
                exact HLS.out
        | 3, HK, hv =>
          · have hv' := fnElem_inv (f := 90) hv
            have hdd : Rd.decl d' rest = Rd.level 2 d' rest := by unfold Rd.decl; rw [HMM.out, if_pos H2.out, HK.out]; rfl
            have HDD := Lib.hid hdd
            have hkd : decide (((3 : Nat)) < 6) = true := by decide
            subst hv'
            clear hdd hv
            cases hres : Rd.level 2 d' rest with
            | bad c r =>
              have hc0 : c ≠ 0 := decl_code (HDD.out.trans hres)
              have c1 : ((c : Int) != 0) = true := by rw [bne_iff_ne]; omega
              have c2 : (c != 0) = true := by rw [bne_iff_ne]; omega
              have HRS := Lib.hid hres
              have HBD := Lib.hid (show Rd.decls (ms.length + 1) d ms = .bad c r by rw [HRES.out, ← HD.out]; exact decls_bad hf0 (by rw [HMM.out]; exact HW.out) (HDD.out.trans hres))
              clear hres hc0
              go_wp2_with fail
              refine (right_any B g x.m d' rest _ HR4.out hrne).mono ?_
              rw [HRS.out]
              rintro e w5 ⟨⟨rfl, h5⟩, hf5⟩
              have H5 := Lib.hid h5
              have HF5 := Lib.hid (HF4.out.trans hf5)
              clear h5 hf5
              go_wp2_with fail
              go_ret
              refine ⟨?_, HF5.out⟩
              rw [HBD.out]
              exact ⟨rfl, H5.out⟩
            | ok d2 r =>
              have HRS := Lib.hid hres
              have hless := Rd.decl_less d' rest
              rw [HDD.out, hres] at hless
              have hless' : r.length < rest.length := hless
              have HLS := Lib.hid hless'
              have HON := Lib.hid (show Rd.decls (f - 1) d2 r = RES by rw [← HD.out]; exact (decls_on hf0 (by rw [HMM.out]; exact HW.out) (HDD.out.trans hres)).symm)
              clear hres hless hless'
              go_wp2_with fail
              refine (right_any B g x.m d' rest _ HR4.out hrne).mono ?_
              rw [HRS.out]
              rintro e w5 ⟨⟨rfl, h5⟩, hf5⟩
              have H5 := Lib.hid h5
              have HF5 := Lib.hid (HF4.out.trans hf5)
              have HA5 := Lib.hid (HA4.out.fr hf5 hneq)
              clear h5 hf5
              go_wp2_with fail
              go_roundw
              case rel => exact ⟨d2, r, f - 1, H5.out, HON.out, by have := HLS.out; omega, HA5.out, HF5.out⟩
              case measure =>
                obtain ⟨x5, h5, _⟩ := H5.out.ex
                obtain ⟨x4, h4, _⟩ := HR0.out.ex
                rw [h5.count, h4.count]
                exact HLS.out
        | 4, HK, hv =>
          · have hv' := fnElem_inv (f := 91) hv
            have hdd : Rd.decl d' rest = Rd.level 3 d' rest := by unfold Rd.decl; rw [HMM.out, if_pos H2.out, HK.out]; rfl
            have HDD := Lib.hid hdd
            have hkd : decide (((4 : Nat)) < 6) = true := by decide
            subst hv'
            clear hdd hv
            cases hres : Rd.level 3 d' rest with
            | bad c r =>
              have hc0 : c ≠ 0 := decl_code (HDD.out.trans hres)
              have c1 : ((c : Int) != 0) = true := by rw [bne_iff_ne]; omega
              have c2 : (c != 0) = true := by rw [bne_iff_ne]; omega
              have HRS := Lib.hid hres
              have HBD := Lib.hid (show Rd.decls (ms.length + 1) d ms = .bad c r by rw [HRES.out, ← HD.out]; exact decls_bad hf0 (by rw [HMM.out]; exact HW.out) (HDD.out.trans hres))
              clear hres hc0
              go_wp2_with fail
              refine (nonassoc_any B g x.m d' rest _ HR4.out hrne).mono ?_
              rw [HRS.out]
              rintro e w5 ⟨⟨rfl, h5⟩, hf5⟩
              have H5 := Lib.hid h5
              have HF5 := Lib.hid (HF4.out.trans hf5)
              clear h5 hf5
              go_wp2_with fail
              go_ret
              refine ⟨?_, HF5.out⟩
              rw [HBD.out]
              exact ⟨rfl, H5.out⟩
            | ok d2 r =>
              have HRS := Lib.hid hres
              have hless := Rd.decl_less d' rest
              rw [HDD.out, hres] at hless
              have hless' : r.length < rest.length := hless
              have HLS := Lib.hid hless'
              have HON := Lib.hid (show Rd.decls (f - 1) d2 r = RES by rw [← HD.out]; exact (decls_on hf0 (by rw [HMM.out]; exact HW.out) (HDD.out.trans hres)).symm)
              clear hres hless hless'
              go_wp2_with fail
              refine (nonassoc_any B g x.m d' rest _ HR4.out hrne).mono ?_
              rw [HRS.out]
              rintro e w5 ⟨⟨rfl, h5⟩, hf5⟩
              have H5 := Lib.hid h5
              have HF5 := Lib.hid (HF4.out.trans hf5)
              have HA5 := Lib.hid (HA4.out.fr hf5 hneq)
              clear h5 hf5
              go_wp2_with fail
              go_roundw
              case rel => exact ⟨d2, r, f - 1, H5.out, HON.out, by have := HLS.out; omega, HA5.out, HF5.out⟩
              case measure =>
                obtain ⟨x5, h5, _⟩ := H5.out.ex
                obtain ⟨x4, h4, _⟩ := HR0.out.ex
                rw [h5.count, h4.count]
                exact HLS.out
        | 5, HK, hv =>
          · have hv' := fnElem_inv (f := 92) hv
            have hdd : Rd.decl d' rest = Rd.start d' rest := by unfold Rd.decl; rw [HMM.out, if_pos H2.out, HK.out]; rfl
            have HDD := Lib.hid hdd
            have hkd : decide (((5 : Nat)) < 6) = true := by decide
            subst hv'
            clear hdd hv
            cases hres : Rd.start d' rest with
            | bad c r =>
              have hc0 : c ≠ 0 := decl_code (HDD.out.trans hres)
              have c1 : ((c : Int) != 0) = true := by rw [bne_iff_ne]; omega
              have c2 : (c != 0) = true := by rw [bne_iff_ne]; omega
              have HRS := Lib.hid hres
              have HBD := Lib.hid (show Rd.decls (ms.length + 1) d ms = .bad c r by rw [HRES.out, ← HD.out]; exact decls_bad hf0 (by rw [HMM.out]; exact HW.out) (HDD.out.trans hres))
              clear hres hc0
              go_wp2_with fail
              refine (start_any B g x.m d' rest _ HR4.out hrne).mono ?_
              rw [HRS.out]
              rintro e w5 ⟨⟨rfl, h5⟩, hf5⟩
              have H5 := Lib.hid h5
              have HF5 := Lib.hid (HF4.out.trans hf5)
              clear h5 hf5
              go_wp2_with fail
              go_ret
              refine ⟨?_, HF5.out⟩
              rw [HBD.out]
              exact ⟨rfl, H5.out⟩
            | ok d2 r =>
              have HRS := Lib.hid hres
              have hless := Rd.decl_less d' rest
              rw [HDD.out, hres] at hless
              have hless' : r.length < rest.length := hless
              have HLS := Lib.hid hless'
              have HON := Lib.hid (show Rd.decls (f - 1) d2 r = RES by rw [← HD.out]; exact (decls_on hf0 (by rw [HMM.out]; exact HW.out) (HDD.out.trans hres)).symm)
              clear hres hless hless'
              go_wp2_with fail
              refine (start_any B g x.m d' rest _ HR4.out hrne).mono ?_
              rw [HRS.out]
              rintro e w5 ⟨⟨rfl, h5⟩, hf5⟩
              have H5 := Lib.hid h5
              have HF5 := Lib.hid (HF4.out.trans hf5)
              have HA5 := Lib.hid (HA4.out.fr hf5 hneq)
              clear h5 hf5
              go_wp2_with fail
              go_roundw
              case rel => exact ⟨d2, r, f - 1, H5.out, HON.out, by have := HLS.out; omega, HA5.out, HF5.out⟩
              case measure =>
                obtain ⟨x5, h5, _⟩ := H5.out.ex
                obtain ⟨x4, h4, _⟩ := HR0.out.ex
                rw [h5.count, h4.count]
                exact HLS.out
        | n + 6, HK, hv =>
          have hkd : decide (n + 6 < 6) = false := by simp
          have hdd : Rd.decl d' rest = .bad 14 rest := by unfold Rd.decl; rw [HMM.out, if_pos H2.out, HK.out]; rfl
          have HBD := Lib.hid (show Rd.decls (ms.length + 1) d ms = .bad 14 rest by rw [HRES.out, ← HD.out]; exact decls_bad hf0 (by rw [HMM.out]; exact HW.out) hdd)
          rw [hkd]
          clear hdd hkd
          go_wp2_with fail
          go_ret
          refine ⟨?_, HF4.out⟩
          rw [HBD.out]
          obtain ⟨z, hz, _⟩ := HR4.out.ex
          exact ⟨rfl, z, hz⟩
      · have k1 : ((M.kind : Int) != 2) = true := by rw [bne_iff_ne]; omega
        have k2 : (M.kind != 2) = true := by rw [bne_iff_ne]; omega
        have hdd : Rd.decl d' rest = .bad 14 rest := by unfold Rd.decl; rw [HMM.out, if_neg h2]
        have HBD := Lib.hid (show Rd.decls (ms.length + 1) d ms = .bad 14 rest by rw [HRES.out, ← HD.out]; exact decls_bad hf0 (by rw [HMM.out]; exact HW.out) hdd)
        clear h2 hdd
        generalize decide (Rd.wordNo M.text < 6) = bb
        go_wp2_with fail
        go_ret
        refine ⟨?_, HF4.out⟩
        rw [HBD.out]
        obtain ⟨z, hz, _⟩ := HR4.out.ex
        exact ⟨rfl, z, hz⟩

end Go.Proofs.YtgmihbfikggkjaaDoor
