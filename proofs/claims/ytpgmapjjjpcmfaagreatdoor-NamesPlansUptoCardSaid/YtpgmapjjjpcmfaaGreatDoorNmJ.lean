/-
  The walk of tronagelaw08's awake.
-/
import Derived.Test.YtpgmapjjjpcmfaaGreatDoorNmI
import Derived.Test.YtpgmapjjjpcmfaaGreatDoorPrAA
import Derived.Test.YtpgmapjjjpcmfaaGreatDoorPrU
namespace Go.Proofs.YtpgmapjjjpcmfaaGreatDoor
open Go.RowKit
open Lx
set_option linter.unusedVariables false
set_option linter.unusedSimpArgs false
set_option maxRecDepth 100000

theorem Right.sz8 {G : Rd.G} (h : Pr.Right G) (hN : (Pr.lvl G).length ≤ 10000) : Sz G := by
  refine ⟨by have := h.ntok; omega, by have := h.nskip; omega, by have := h.nlev; omega, by have := h.nrule; omega, fun t ht => ?_, fun p hp => ?_, fun v hv => ?_, by have := Pr.name_len h.start; omega, fun r hr => ?_⟩
  · have h1 := h.toks t ht
    unfold Pr.tokOk at h1
    rw [Bool.and_eq_true] at h1
    have h2 := Pr.name_len h1.1
    have h3 := h1.2
    unfold Pr.patOk at h3
    refine ⟨by omega, ?_, ?_⟩
    · by_cases h0 : t.pat.text = []
      · rw [h0]; simp
      · rw [if_neg h0] at h3; simp only [Bool.and_eq_true, decide_eq_true_eq] at h3; omega
    · by_cases h0 : t.pat.text = []
      · rw [if_pos h0] at h3; simp only [Bool.and_eq_true] at h3; have := Pr.rises_len h3.2; omega
      · rw [if_neg h0] at h3; simp only [Bool.and_eq_true, beq_iff_eq] at h3; rw [h3.2.1]; simp
  · have h3 := h.skips p hp
    unfold Pr.patOk at h3
    refine ⟨?_, ?_⟩
    · by_cases h0 : p.text = []
      · rw [h0]; simp
      · rw [if_neg h0] at h3; simp only [Bool.and_eq_true, decide_eq_true_eq] at h3; omega
    · by_cases h0 : p.text = []
      · rw [if_pos h0] at h3; simp only [Bool.and_eq_true] at h3; have := Pr.rises_len h3.2; omega
      · rw [if_neg h0] at h3; simp only [Bool.and_eq_true, beq_iff_eq] at h3; rw [h3.2.1]; simp
  · have h1 := h.levels v hv
    unfold Pr.levOk at h1
    simp only [Bool.and_eq_true, List.all_eq_true] at h1
    refine ⟨?_, fun n hn => by have := Pr.name_len (h1.2.2 n hn); omega⟩
    unfold Pr.lvl at hN
    obtain ⟨s1, s2, hs⟩ := List.append_of_mem hv
    rw [hs] at hN
    simp only [List.flatMap_append, List.flatMap_cons, List.length_append] at hN
    omega
  · have h1 := h.each r hr
    unfold Pr.ruleOk at h1
    simp only [Bool.and_eq_true, Bool.or_eq_true, decide_eq_true_eq, beq_iff_eq, List.all_eq_true] at h1
    obtain ⟨k1, k2, k3, k4, k5⟩ := h1
    refine ⟨by have := Pr.name_len k1; omega, ?_, by have := Pr.action_len k5; omega, by omega, fun n hn => by have := Pr.name_len (k3 n hn); omega⟩
    rcases k4 with h | h
    · rw [h]; simp
    · have := Pr.name_len h; omega
theorem Right.assoc8 {G : Rd.G} (h : Pr.Right G) : ∀ x ∈ G.levels, 1 ≤ x.assoc ∧ x.assoc ≤ 3 := fun x hx => by
  have h1 := h.levels x hx
  unfold Pr.levOk at h1
  simp only [Bool.and_eq_true, decide_eq_true_eq] at h1
  exact h1.1
theorem gram_form8 {w : World} {v : Value} {G : Rd.G} (h : GramIs w v G) : ∃ E1 m1 f1 E2 m2 f2 E3 m3 f3 st E4 m4 f4, v = .agg #[.slice E1 m1 f1, .slice E2 m2 f2, .slice E3 m3 f3, .string st, .slice E4 m4 f4] := by
  obtain ⟨tv, sv, lv, rv, hgv, ⟨E1, f1, rfl, _⟩, ⟨E2, f2, rfl, _⟩, ⟨E3, f3, pl3, rfl, _⟩, ⟨E4, f4, ql3, rfl, _⟩⟩ := h.ex
  exact ⟨_, _, _, _, _, _, _, _, _, _, _, _, _, hgv⟩

theorem of_err {v : Value} {G : Rd.G} {w : World} (h : Calls Tryz.prog 16 #[v] w (OfIs G w)) {c : Nat} {n : Rd.Name} (he : Nm.ofG G = (Nm.empty, c, n)) :
    Calls Tryz.prog 16 #[v] w fun e w' => (∃ B1 d1 B2 d2 B3 d3 B4 d4 B5 d5 B6 d6, e = .returned (.tuple #[.agg #[.slice B1 0 d1, .slice B2 0 d2, .slice B3 0 d3, .slice B4 0 d4, .slice B5 0 d5, .slice B6 0 d6], .int .i64 (c : Int), .string (str n)])) ∧ Below w.heap.size w w' := by
  refine h.mono ?_
  rintro e w' ⟨⟨pv, rfl, hp⟩, hb⟩
  rw [he] at hp ⊢
  obtain ⟨B1, d1, B2, d2, B3, d3, B4, d4, B5, d5, B6, d6, rfl, _⟩ := hp.ex
  exact ⟨⟨B1, d1, B2, d2, B3, d3, B4, d4, B5, d5, B6, d6, rfl⟩, hb⟩
theorem of_ok {v : Value} {G : Rd.G} {w : World} (h : Calls Tryz.prog 16 #[v] w (OfIs G w)) {P : Nm.Plan} (he : Nm.ofG G = (P, 0, [])) :
    Calls Tryz.prog 16 #[v] w fun e w' => (∃ pv, e = .returned (.tuple #[pv, .int .i64 0, .string ⟨#[]⟩]) ∧ PlanC w' w'.heap.size pv P) ∧ Below w.heap.size w w' := by
  refine h.mono ?_
  rintro e w' ⟨⟨pv, rfl, hp⟩, hb⟩
  rw [he] at hp ⊢
  exact ⟨⟨pv, rfl, hp⟩, hb⟩

def aw8A : Rd.G := ⟨[⟨[78], ⟨[110], [], false⟩⟩, ⟨[80], ⟨[112], [], false⟩⟩], [], [⟨1, [[80]]⟩], [69], [⟨[69], [[69], [80], [69]], [], []⟩, ⟨[69], [[78]], [], []⟩]⟩
def aw8B : Rd.G := ⟨[], [], [], [69], [⟨[69], [[70]], [], []⟩]⟩
def aw8P : Nm.Plan := ⟨[[36, 101, 110, 100], [78], [80]], [[69]], [⟨4, [3], 0⟩, ⟨3, [3, 2, 3], 1⟩, ⟨3, [1], 0⟩], [0, 0, 1], [0, 1], [[], [], []]⟩
theorem aw8G : Rd.readG [37, 116, 111, 107, 101, 110, 32, 78, 32, 34, 110, 34, 32, 37, 116, 111, 107, 101, 110, 32, 80, 32, 34, 112, 34, 32, 37, 108, 101, 102, 116, 32, 80, 32, 37, 37, 32, 69, 32, 58, 32, 69, 32, 80, 32, 69, 32, 124, 32, 78, 32, 59] = aw8A := by decide +kernel
theorem aw8D : Rd.readD [37, 116, 111, 107, 101, 110, 32, 78, 32, 34, 110, 34, 32, 37, 116, 111, 107, 101, 110, 32, 80, 32, 34, 112, 34, 32, 37, 108, 101, 102, 116, 32, 80, 32, 37, 37, 32, 69, 32, 58, 32, 69, 32, 80, 32, 69, 32, 124, 32, 78, 32, 59] = (0, 0, 0) := by decide +kernel
theorem aw8r : Pr.rightB aw8A = true := by decide +kernel
theorem aw8s : Pr.rightB aw8B = true := by decide +kernel
theorem aw8o : Nm.ofG aw8A = (aw8P, 0, []) := by decide +kernel
theorem aw8e : Nm.ofG aw8B = (Nm.empty, 16, [70]) := by decide +kernel
theorem aw8y : Nm.sym aw8P.terms aw8P.vars [69] = 3 := by decide +kernel
theorem aw8t : Nm.showT aw8P 1 = [69, 32, 58, 32, 69, 32, 80, 32, 69] := by decide +kernel
theorem aw8z : PSz aw8P := by
  refine ⟨?_, ?_, ?_, ?_, ?_, ?_, ?_, ?_, ?_⟩ <;> decide

set_option maxHeartbeats 4000000 in
theorem awake8_any (w : World) (hT : Tab w) (h0 : 1 < w.heap.size) :
    Calls Tryz.prog 15 #[] w fun e w' => e = .returned (.bool true) ∧ Below w.heap.size w w' := by
  have HRT := Lib.hid (fun w' a b => read_is ⟨#[37, 116, 111, 107, 101, 110, 32, 78, 32, 34, 110, 34, 32, 37, 116, 111, 107, 101, 110, 32, 80, 32, 34, 112, 34, 32, 37, 108, 101, 102, 116, 32, 80, 32, 37, 37, 32, 69, 32, 58, 32, 69, 32, 80, 32, 69, 32, 124, 32, 78, 32, 59]⟩ aw8A (0, 0, 0) w' (by decide) a b aw8G aw8D)
  have HT := Lib.hid hT
  have hright := (Pr.rightB_iff aw8A).1 aw8r
  have HRI := Lib.hid hright
  have f1 : ((str [69, 32, 58, 32, 69, 32, 80, 32, 69]).toList == [69, 32, 58, 32, 69, 32, 80, 32, 69]) = true := by rw [toList_eq, bl_str]; rfl
  have f2 : ((str [70]).toList == [70]) = true := by rw [toList_eq, bl_str]; rfl
  clear hT hright
  go_enter Tryz.func15, Tryz.ntmps15
  go_wp2_with fail
  refine (HRT.out _ HT.out h0).mono ?_
  rintro e w1 ⟨⟨gv, rfl, hgi⟩, hb1⟩
  have HT1 := Lib.hid (HT.out.below hb1 h0)
  have HGI := Lib.hid hgi
  have hs1 := hb1.size
  obtain ⟨E1, m1, k1, E2, m2, k2, E3, m3, k3, st, E4, m4, k4, rfl⟩ := gram_form8 hgi
  rw [show diagV (0, 0, 0) = .agg #[.int .i64 0, .int .i64 0, .int .i64 0] from rfl]
  obtain ⟨hg, hd, hbn⟩ := two_new w1 #[.slice E1 m1 k1, .slice E2 m2 k2, .slice E3 m3 k3, .string st, .slice E4 m4 k4] #[.int .i64 0, .int .i64 0, .int .i64 0]
  have HC2 := Lib.hid hbn
  have HB2 := Lib.hid (hb1.trans (hbn.mono hs1))
  have HT2 := Lib.hid (HT1.out.below hbn (by omega))
  have hs2 := hbn.size
  have x0 := hg.cell 0
  have x1 := hg.cell 1
  have x2 := hg.cell 2
  have x3 := hg.cell 3
  have x4 := hg.cell 4
  simp only [List.getElem?_toArray, List.getElem?_cons_zero, List.getElem?_cons_succ] at x0 x1 x2 x3 x4
  clear hgi hb1 hg hd hbn
  go_wp2_with fail
  have hgc := (HGI.out.gramC (Right.assoc8 HRI.out)).below HC2.out
  refine (of_any _ aw8A _ (hgc.mono HC2.out.size) (Right.sz8 HRI.out (by decide)) HT2.out (by omega) (fun _ => by decide)).mono ?_
  rintro e w3 ⟨⟨pv, rfl, hpl⟩, hb3⟩
  rw [aw8o] at hpl
  rw [aw8o, show str [] = ⟨#[]⟩ from rfl]
  have HPL := Lib.hid hpl
  obtain ⟨A1, c1, A2, c2, A3, c3, A4, c4, A5, c5, A6, c6, rfl, _, _, hp3, _⟩ := hpl.ex
  obtain ⟨pb, po, _, _, ha3, _⟩ := hp3.get (k := 1) (x := ⟨3, [3, 2, 3], 1⟩) rfl
  subst ha3
  have HP3 := Lib.hid hp3
  have hs3 := hb3.size
  have HB3 := Lib.hid (HB2.out.trans (hb3.mono HB2.out.size))
  have HT3 := Lib.hid (HT2.out.below hb3 (by omega))
  rw [show aw8P.terms.length = 3 from rfl, show aw8P.vars.length = 1 from rfl, show aw8P.rules.length = 3 from rfl, show aw8P.levels.length = 3 from rfl, show aw8P.assocs.length = 2 from rfl, show aw8P.acts.length = 3 from rfl] at HPL ⊢
  have hPl := ((At.new w3 45 #[.slice A1 3 c1, .slice A2 1 c2, .slice (some ⟨pb, po, none⟩) 3 c3, .slice A4 3 c4, .slice A5 2 c5, .slice A6 3 c6]).alloc (.cells #[.string ⟨#[70]⟩] 9)).alloc (.cells #[.string ⟨#[69]⟩, .slice (some ⟨w3.heap.size + 1, 0, none⟩) 1 1, .string ⟨#[]⟩, .string ⟨#[]⟩] 36)
  have ha1 := (At.new (w3.alloc (.cells #[.slice A1 3 c1, .slice A2 1 c2, .slice (some ⟨pb, po, none⟩) 3 c3, .slice A4 3 c4, .slice A5 2 c5, .slice A6 3 c6] 45)) 9 #[.string ⟨#[70]⟩]).alloc (.cells #[.string ⟨#[69]⟩, .slice (some ⟨w3.heap.size + 1, 0, none⟩) 1 1, .string ⟨#[]⟩, .string ⟨#[]⟩] 36)
  have ha2 := At.new ((w3.alloc (.cells #[.slice A1 3 c1, .slice A2 1 c2, .slice (some ⟨pb, po, none⟩) 3 c3, .slice A4 3 c4, .slice A5 2 c5, .slice A6 3 c6] 45)).alloc (.cells #[.string ⟨#[70]⟩] 9)) 36 #[.string ⟨#[69]⟩, .slice (some ⟨w3.heap.size + 1, 0, none⟩) 1 1, .string ⟨#[]⟩, .string ⟨#[]⟩]
  have hb4 := (((Below.refl w3.heap.size w3).alloc (Nat.le_refl _) (.cells #[.slice A1 3 c1, .slice A2 1 c2, .slice (some ⟨pb, po, none⟩) 3 c3, .slice A4 3 c4, .slice A5 2 c5, .slice A6 3 c6] 45)).alloc (by simp) (.cells #[.string ⟨#[70]⟩] 9)).alloc (by simp; omega) (.cells #[.string ⟨#[69]⟩, .slice (some ⟨w3.heap.size + 1, 0, none⟩) 1 1, .string ⟨#[]⟩, .string ⟨#[]⟩] 36)
  rw [World.size_alloc] at ha1
  rw [World.size_alloc, World.size_alloc] at ha2
  obtain ⟨W, hW⟩ : ∃ W, ((w3.alloc (.cells #[.slice A1 3 c1, .slice A2 1 c2, .slice (some ⟨pb, po, none⟩) 3 c3, .slice A4 3 c4, .slice A5 2 c5, .slice A6 3 c6] 45)).alloc (.cells #[.string ⟨#[70]⟩] 9)).alloc (.cells #[.string ⟨#[69]⟩, .slice (some ⟨w3.heap.size + 1, 0, none⟩) 1 1, .string ⟨#[]⟩, .string ⟨#[]⟩] 36) = W := ⟨_, rfl⟩
  rw [hW] at hPl ha1 ha2 hb4
  have hgc2 : GramC W W.heap.size (.agg #[.slice none 0 0, .slice none 0 0, .slice none 0 0, .string ⟨#[69]⟩, .slice (some ⟨w3.heap.size + 1 + 1, 0, none⟩) 1 1]) aw8B := by
    refine ⟨none, 0, none, 0, none, 0, some ⟨w3.heap.size + 1 + 1, 0, none⟩, 1, [], [(⟨[69], [[70]], [], []⟩, .slice (some ⟨w3.heap.size + 1, 0, none⟩) 1 1)], rfl, Cl.nil _ _ _, Cl.nil _ _ _, Cl.nil _ _ _, rfl, by simp, ⟨fun _ => ⟨_, _, rfl, ha2.lt, fun j u hu => ?_⟩⟩, rfl, fun p hp => ?_⟩
    · rw [Nat.zero_add, ha2.cell]
      rw [← hu]; simp [rulesV, ruleCells]; rfl
    · simp only [List.mem_cons, List.not_mem_nil, or_false] at hp
      subst hp
      refine ⟨_, _, rfl, ⟨fun _ => ⟨_, _, rfl, ha1.lt, fun j u hu => ?_⟩⟩⟩
      rw [Nat.zero_add, ha1.cell]
      rw [← hu]; simp [namesV]; rfl
  have HOF := Lib.hid (of_err (of_any _ aw8B W hgc2 (Right.sz8 ((Pr.rightB_iff aw8B).1 aw8s) (by decide)) (HT3.out.below hb4 (by omega)) (by have := hb4.size; omega) (fun _ => by decide)) aw8e)
  have HW := Lib.hid hW
  have HB4 := Lib.hid (HB3.out.trans (hb4.mono HB3.out.size))
  have HC4 := Lib.hid hb4
  have HPl := Lib.hid hPl
  have hs4 := hPl.lt
  clear hgc hb3 hpl hp3 hPl ha1 ha2 hb4 hW hgc2 x0 x1 x2 x3 x4
  go_wp2_with fail
  rw [HW.out]
  refine HOF.out.mono ?_
  rintro e w5 ⟨⟨B1, d1, B2, d2, B3, d3, B4, d4, B5, d5, B6, d6, rfl⟩, hb5⟩
  rw [show ((16 : Nat) : Int) = 16 from rfl]
  have hb6 := (Below.refl w5.heap.size w5).alloc (Nat.le_refl _) (.cells #[.slice B1 0 d1, .slice B2 0 d2, .slice B3 0 d3, .slice B4 0 d4, .slice B5 0 d5, .slice B6 0 d6] 45)
  have hb56 := hb5.trans (hb6.mono hb5.size)
  have hPl6 := HPl.out.below hb56 hs4
  have hC6 := HC4.out.trans (hb56.mono HC4.out.size)
  have hB6 := HB4.out.trans (hb56.mono HB4.out.size)
  obtain ⟨W6, hW6⟩ : ∃ W6, w5.alloc (.cells #[.slice B1 0 d1, .slice B2 0 d2, .slice B3 0 d3, .slice B4 0 d4, .slice B5 0 d5, .slice B6 0 d6] 45) = W6 := ⟨_, rfl⟩
  have q0 := hPl6.cell 0
  have q1 := hPl6.cell 1
  have q2 := hPl6.cell 2
  have q3 := hPl6.cell 3
  have q4 := hPl6.cell 4
  have q5 := hPl6.cell 5
  simp only [List.getElem?_toArray, List.getElem?_cons_zero, List.getElem?_cons_succ] at q0 q1 q2 q3 q4 q5
  obtain ⟨pb', po', _, _, e1, _, _, _, r1, _⟩ := (HP3.out.below hC6).get (k := 1) (x := ⟨3, [3, 2, 3], 1⟩) rfl
  injection e1 with e1
  injection e1 with e1 e2 _
  subst e1 e2
  obtain ⟨pb', po', _, _, e1, _, _, _, r2, _⟩ := (HP3.out.below hC6).get (k := 2) (x := ⟨3, [1], 0⟩) rfl
  injection e1 with e1
  injection e1 with e1 e2 _
  subst e1 e2
  rw [show po + 1 * 3 + 2 = po + 3 + 2 from rfl] at r1
  rw [show po + 2 * 3 + 2 = po + 6 + 2 from rfl] at r2
  have HPL6 := Lib.hid ((HPL.out.below hC6))
  rw [hW6] at hC6 hB6 hPl6 HPL6
  have HW6 := Lib.hid hW6
  have HPl6 := Lib.hid hPl6
  have HB6 := Lib.hid hB6
  have hSZ : w3.heap.size ≤ W6.heap.size := hC6.size
  have HSY := Lib.hid (sym_any _ aw8P.terms aw8P.vars [69] w3.heap.size W6 HPL6.out.sym hSZ (by decide) (by decide))
  have HAC := Lib.hid (fun w' (hw : Below W6.heap.size W6 w') => accept_any _ aw8P.terms aw8P.vars w3.heap.size w' (HPL6.out.sym.below (hw.mono hSZ)) (by decide) (by decide))
  have HSH := Lib.hid (fun w' (hw : Below W6.heap.size W6 w') => show_any _ aw8P 1 w3.heap.size w' (HPL6.out.below (hw.mono hSZ)) (Nat.le_trans hSZ hw.size) aw8z)
  rw [aw8y] at HSY
  rw [aw8t] at HSH
  clear hb5 hb6 hb56 hPl6 hC6 hB6 hW6 HPL6
  go_wp2_with fail
  rw [HW6.out]
  clear q0 q1 q2 q3 q4 q5 r1 r2
  refine HSY.out.mono ?_
  rintro e w7 ⟨rfl, hb7⟩
  have HB7 := Lib.hid hb7
  have hP7 := HPl6.out.below hb7 HPl6.out.lt
  have p0 := hP7.cell 0
  have p1 := hP7.cell 1
  have p2 := hP7.cell 2
  have p3 := hP7.cell 3
  have p4 := hP7.cell 4
  have p5 := hP7.cell 5
  simp only [List.getElem?_toArray, List.getElem?_cons_zero, List.getElem?_cons_succ] at p0 p1 p2 p3 p4 p5
  clear hb7 hP7
  go_wp2_with fail
  refine (HAC.out _ HB7.out).mono ?_
  rw [show ((aw8P.terms.length : Int) + (aw8P.vars.length : Int)) = 4 from rfl]
  rintro e w8 ⟨rfl, hb8⟩
  have HB8 := Lib.hid (HB7.out.trans (hb8.mono HB7.out.size))
  have hP8 := HPl6.out.below HB8.out HPl6.out.lt
  have r0 := hP8.cell 0
  have r1 := hP8.cell 1
  have r2 := hP8.cell 2
  have r3 := hP8.cell 3
  have r4 := hP8.cell 4
  have r5 := hP8.cell 5
  simp only [List.getElem?_toArray, List.getElem?_cons_zero, List.getElem?_cons_succ] at r0 r1 r2 r3 r4 r5
  clear hb8 hP8 p0 p1 p2 p3 p4 p5
  go_wp2_with fail
  refine (HSH.out _ HB8.out).mono ?_
  rintro e w9 ⟨rfl, hb9⟩
  clear r0 r1 r2 r3 r4 r5
  go_wp2_with fail
  go_ret
  exact ⟨rfl, HB6.out.trans ((HB8.out.trans (hb9.mono HB8.out.size)).mono HB6.out.size)⟩

end Go.Proofs.YtpgmapjjjpcmfaaGreatDoor
