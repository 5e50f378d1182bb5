/-
  The walk of reader's Read.
  tronagelaw06's awake: the chapter's examples.
  The walks of tronageref05's Texts and tronageref06's Same, at things that are the same; of tronagelaw06's zero.
  What is so of each list of marks: what is wrong is so with one of them; what is read has no more of anything than may be.
-/
import Derived.Test.YtpgmapjjjpcmfaaGreatDoorRdAD
import Derived.Test.YtpgmapjjjpcmfaaGreatDoorLwAA
import Derived.Test.YtpgmapjjjpcmfaaGreatDoorLwG
import Derived.BigQuiet
import Derived.Deep.QuietTactic
namespace Go.Proofs.YtpgmapjjjpcmfaaGreatDoor
open Go.RowKit
open Lx
set_option linter.unusedVariables false
set_option linter.unusedSimpArgs false
set_option maxRecDepth 100000

namespace Lx
theorem text_kind (l told : List UInt8) (i k : Nat) (t : List UInt8) (n : Nat) : text l told i = .mark k t n → k = 3 := by
  fun_induction text l told i
  all_goals first
    | (intro h; cases h; done)
    | (intro h; cases h; rfl)
    | (rename_i ih; exact ih)
theorem cls_kind (l : List UInt8) (i : Nat) (p : Parts) (k : Nat) (t : List UInt8) (n : Nat) : cls l i p = .mark k t n → k = 4 := by
  fun_induction cls l i p
  all_goals first
    | (intro h; cases h; done)
    | (intro h; cases h; rfl)
    | (rename_i ih; exact ih)
theorem act_kind (l acc : List UInt8) (o k : Nat) (t : List UInt8) (n : Nat) : act l acc o = .mark k t n → k = 9 := by
  fun_induction act l acc o
  all_goals first
    | (intro h; cases h; done)
    | (intro h; cases h; rfl)
    | (rename_i ih; exact ih)
theorem step_name (l : List UInt8) (k : Nat) (t : List UInt8) (n : Nat) (h : step l = .mark k t n) (hk : k = 1) : t ≠ [] := by
  subst hk
  cases l with
  | nil => cases h
  | cons c r =>
    unfold step at h
    simp only [] at h
    by_cases h1 : c = 32 ∨ c = 9 ∨ c = 10 ∨ c = 13
    · rw [if_pos h1] at h; cases h
    · rw [if_neg h1] at h
      by_cases h2 : c = 35
      · rw [if_pos h2] at h; cases h
      · rw [if_neg h2] at h
        by_cases h3 : isLetter c = true
        · rw [if_pos h3] at h
          split at h
          · cases h
          · cases h
            have e : nameOf (c :: r) = if isLetter c then (c :: r).takeWhile isName else [] := rfl
            rw [e, if_pos h3, List.takeWhile_cons_of_pos (by unfold isName; rw [h3]; rfl)]
            simp
        · rw [if_neg h3] at h
          by_cases h4 : c = 37
          · rw [if_pos h4] at h
            unfold word at h
            split at h <;> cases h
          · rw [if_neg h4] at h
            by_cases h5 : c = 34
            · rw [if_pos h5] at h
              exact absurd (text_kind _ _ _ _ _ _ h) (by decide)
            · rw [if_neg h5] at h
              by_cases h6 : c = 91
              · rw [if_pos h6] at h
                exact absurd (cls_kind _ _ _ _ _ _ h) (by decide)
              · rw [if_neg h6] at h
                by_cases h7 : c = 123
                · rw [if_pos h7] at h
                  exact absurd (act_kind _ _ _ _ _ _ h) (by decide)
                · rw [if_neg h7] at h
                  repeat' split at h
                  all_goals (cases h; done)
theorem run_each (Q : Nat → List UInt8 → Prop) (hQ : ∀ l k t n, step l = .mark k t n → Q k t) (h0 : Q 0 []) : ∀ (f : Nat) (l : List UInt8) (i : Nat) (acc ms : List M0), (∀ m ∈ acc, Q m.1 m.2.1) → run f l i acc = .ok ms → ∀ m ∈ ms, Q m.1 m.2.1 := by
  intro f
  induction f with
  | zero =>
    intro l i acc ms ha h
    unfold run at h
    cases h; exact ha
  | succ f ih =>
    intro l i acc ms ha h
    by_cases hl : l = []
    · subst hl
      rw [run_end (by omega)] at h
      cases h
      intro m hm
      rcases List.mem_append.1 hm with hm | hm
      · exact ha m hm
      · simp at hm; subst hm; exact h0
    · cases hs : step l with
      | skip n => rw [run_skip (by omega) hl hs] at h; exact ih _ _ _ _ ha h
      | mark k t n =>
        rw [run_mark (by omega) hl hs] at h
        refine ih _ _ _ _ (fun m hm => ?_) h
        rcases List.mem_append.1 hm with hm | hm
        · exact ha m hm
        · simp at hm; subst hm; exact hQ _ _ _ _ hs
      | bad c n => rw [run_bad (by omega) hl hs] at h; cases h
theorem lex_each {l : List UInt8} {ms : List M0} (h : lex l = .ok ms) : ∀ m ∈ ms, m.2.1.length ≤ 256 ∧ (m.1 = 1 → m.2.1 ≠ []) := by
  unfold lex at h
  split at h
  · cases h
  · refine run_each (fun k t => t.length ≤ 256 ∧ (k = 1 → t ≠ [])) (fun l k t n hs => ⟨?_, step_name l k t n hs⟩) ⟨by simp, by simp⟩ _ _ _ _ _ (by simp) h
    cases l with
    | nil => cases hs
    | cons c r =>
      have := step_fits c r
      rw [hs] at this
      exact this.2.2.2.2
theorem lex_len {l : List UInt8} {ms : List M0} (h : lex l = .ok ms) : l.length ≤ 4000 := by
  unfold lex at h
  split at h
  · cases h
  · omega
end Lx

theorem lex_sane {l : List UInt8} {ms : List M0} (h : lex l = .ok ms) : Sane (ms.map (mkOf l)) ∧ (ms.map (mkOf l)).length ≤ 1000000 := by
  have h1 := lex_count h
  have h2 := lex_len h
  have h3 := lex_each h
  refine ⟨⟨by simp; omega, fun m hm => ?_⟩, by simp; omega⟩
  obtain ⟨m0, hm0, rfl⟩ := List.mem_map.1 hm
  have := (h3 m0 hm0).1
  show m0.2.1.length ≤ 4000
  omega

/-- What Read tells of the text l. -/
structure ReadTells (l : List UInt8) (w : World) (e : Ending) (w' : World) : Prop where
  ex : ∃ gv, e = .returned (.tuple #[gv, diagV (Rd.readD l)]) ∧ GramIs w' gv (Rd.readG l)
  below : Below w.heap.size w w'


set_option maxHeartbeats 1000000 in
theorem read_any (s : ByteArray) (w : World) (hm : s.size ≤ 9223372036854775807) (hT : Tab w) (h0 : 1 < w.heap.size) :
    Calls Tryz.prog 45 #[.string s] w (ReadTells (bl s) w) := by
  have HT := Lib.hid hT
  clear hT
  cases hlex : lex (bl s) with
  | bad c i =>
    have hcc := (lex_at hlex).1
    have hG : Rd.readG (bl s) = Rd.zero := by unfold Rd.readG; rw [hlex]
    have hD : Rd.readD (bl s) = (c, (pos (bl s) i).1, (pos (bl s) i).2) := by unfold Rd.readD; rw [hlex]
    have hMs : (lex (bl s)).marks (bl s) = [] := by rw [hlex]; rfl
    have hDs : (lex (bl s)).diag (bl s) = (c, (pos (bl s) i).1, (pos (bl s) i).2) := by rw [hlex]; rfl
    generalize pos (bl s) i = P at hD hDs
    have HMs := Lib.hid hMs
    have HDs := Lib.hid hDs
    have HG := Lib.hid hG
    have HD := Lib.hid hD
    have c1 : ((c : Int) != 0) = true := by rw [bne_iff_ne]; omega
    have c2 : (c != 0) = true := by rw [bne_iff_ne]; omega
    clear hlex hMs hDs hG hD hcc
    go_enter Tryz.func45, Tryz.ntmps45
    go_wp2_with fail
    have hb0 : Below w.heap.size w ((w.alloc (.cells #[.slice none 0 0, .slice none 0 0, .slice none 0 0, .string ⟨#[]⟩, .slice none 0 0] 27)).alloc (.cells #[.int .i64 0, .int .i64 0, .int .i64 0] 82)) := ((Below.refl _ _).alloc (Nat.le_refl _) _).alloc (by simp) _
    have hgg0 := ((At.new w 27 #[.slice none 0 0, .slice none 0 0, .slice none 0 0, .string ⟨#[]⟩, .slice none 0 0]).alloc (.cells #[.int .i64 0, .int .i64 0, .int .i64 0] 82))
    have hdd0 := At.new (w.alloc (.cells #[.slice none 0 0, .slice none 0 0, .slice none 0 0, .string ⟨#[]⟩, .slice none 0 0] 27)) 82 #[.int .i64 0, .int .i64 0, .int .i64 0]
    have hdd0' : At ((w.alloc (.cells #[.slice none 0 0, .slice none 0 0, .slice none 0 0, .string ⟨#[]⟩, .slice none 0 0] 27)).alloc (.cells #[.int .i64 0, .int .i64 0, .int .i64 0] 82)) (w.heap.size + 1) 82 #[.int .i64 0, .int .i64 0, .int .i64 0] := by simpa using hdd0
    have hT0 : Tab ((w.alloc (.cells #[.slice none 0 0, .slice none 0 0, .slice none 0 0, .string ⟨#[]⟩, .slice none 0 0] 27)).alloc (.cells #[.int .i64 0, .int .i64 0, .int .i64 0] 82)) := HT.out.below hb0 h0
    obtain ⟨w0, hw0⟩ : ∃ w0, (w.alloc (.cells #[.slice none 0 0, .slice none 0 0, .slice none 0 0, .string ⟨#[]⟩, .slice none 0 0] 27)).alloc (.cells #[.int .i64 0, .int .i64 0, .int .i64 0] 82) = w0 := ⟨_, rfl⟩
    have hs0 : w0.heap.size = w.heap.size + 1 + 1 := by rw [← hw0]; simp
    rw [hw0] at hb0 hgg0 hdd0' hT0 ⊢
    have hB0 := hb0.size
    obtain ⟨gg, hgg⟩ : ∃ gg, w.heap.size = gg := ⟨_, rfl⟩
    obtain ⟨gd, hgd⟩ : ∃ gd, gg + 1 = gd := ⟨_, rfl⟩
    rw [hgg] at hgg0 hs0
    rw [hgg, hgd] at hdd0'
    rw [hgg, hgd]
    rw [hgd] at hs0
    have HGG0 := Lib.hid hgg0
    have HDD0 := Lib.hid hdd0'
    have HB0 := Lib.hid hb0
    clear hdd0 hdd0' hgg0 hb0 hw0
    refine (lex_room s w0 hm hT0 (by omega)).mono ?_
    intro e w1 hlx
    obtain ⟨⟨⟨A, cap, he, hma⟩, hb1⟩, hroom⟩ := hlx
    subst he
    have hcap := hroom A _ cap _ rfl
    rw [HMs.out, HDs.out]
    simp only [List.length_nil, diagV]
    have HGG1 := Lib.hid ((HGG0.out.below hb1 HGG0.out.lt).alloc (.cells #[.int .i64 (c : Int), .int .i64 (P.1 : Int), .int .i64 (P.2 : Int)] 82))
    have HDD1 := Lib.hid ((HDD0.out.below hb1 HDD0.out.lt).alloc (.cells #[.int .i64 (c : Int), .int .i64 (P.1 : Int), .int .i64 (P.2 : Int)] 82))
    have HB1 := Lib.hid ((HB0.out.trans (hb1.mono (by omega))).alloc (by have := hb1.size; omega) (.cells #[.int .i64 (c : Int), .int .i64 (P.1 : Int), .int .i64 (P.2 : Int)] 82))
    have hs1 := hb1.size
    clear hma hroom hcap hb1
    go_wp2_with fail
    obtain ⟨W, hW⟩ : ∃ W, w1.alloc (.cells #[.int .i64 (c : Int), .int .i64 (P.1 : Int), .int .i64 (P.2 : Int)] 82) = W := ⟨_, rfl⟩
    have hgx := At.new w1 82 #[.int .i64 (c : Int), .int .i64 (P.1 : Int), .int .i64 (P.2 : Int)]
    obtain ⟨gx, hgxe⟩ : ∃ gx, w1.heap.size = gx := ⟨_, rfl⟩
    rw [hW] at hgx HGG1 HDD1 HB1 ⊢
    rw [hgxe] at hgx ⊢
    have n1 : ¬ (gg = gd) := by omega
    have n2 : ¬ (gd = gg) := by omega
    have n3 : ¬ (gx = gg) := by omega
    have n4 : ¬ (gg = gx) := by omega
    have n5 : ¬ (gx = gd) := by omega
    have n6 : ¬ (gd = gx) := by omega
    have x0 := hgx.cell 0
    have x1 := hgx.cell 1
    have x2 := hgx.cell 2
    simp only [List.getElem?_toArray, List.getElem?_cons_zero, List.getElem?_cons_succ] at x0 x1 x2
    have g0 := HGG1.out.cell 0
    have g1 := HGG1.out.cell 1
    have g2 := HGG1.out.cell 2
    have g3 := HGG1.out.cell 3
    have g4 := HGG1.out.cell 4
    have gf := HGG1.out.frozen
    have d0 := HDD1.out.cell 0
    have d1 := HDD1.out.cell 1
    have d2 := HDD1.out.cell 2
    have df := HDD1.out.frozen
    simp only [List.getElem?_toArray, List.getElem?_cons_zero, List.getElem?_cons_succ] at g0 g1 g2 g3 g4 d0 d1 d2
    clear hW hgx hgxe hs1
    go_region
    all_goals
      go_wp2_with fail
      have f1 := grown_five W gg (.slice none 0 0) (.slice none 0 0) (.slice none 0 0) (.string ⟨#[]⟩) (.slice none 0 0)
      have e1 := HGG1.out.five_ (.slice none 0 0) (.slice none 0 0) (.slice none 0 0) (.string ⟨#[]⟩) (.slice none 0 0)
      have e2 := (rest_far HDD1.out f1 n2).three (.int .i64 (c : Int)) (.int .i64 (P.1 : Int)) (.int .i64 (P.2 : Int))
      have f2 := grown_three (((((W.setCell ⟨gg, 0, none⟩ (.slice none 0 0)).setCell ⟨gg, 1, none⟩ (.slice none 0 0)).setCell ⟨gg, 2, none⟩ (.slice none 0 0)).setCell ⟨gg, 3, none⟩ (.string ⟨#[]⟩)).setCell ⟨gg, 4, none⟩ (.slice none 0 0)) gd (.int .i64 (c : Int)) (.int .i64 (P.1 : Int)) (.int .i64 (P.2 : Int))
      have e3 := rest_far e1 f2 n1
      have hb9 := below_grown (below_grown HB1.out f1 HB1.out.size (by omega)) f2 (by have := HB1.out.size; have := f1.size; omega) (by omega)
      refine bodyPost_ret (results_cell_cell rfl _ _ gg _ _ _ rfl e3.drew Tryz.underlying27 rfl Tryz.sizeGrammar gd _ _ _ rfl e2.drew Tryz.underlying82 rfl Tryz.sizeDiag) rfl ⟨⟨zeroG, ?_, ?_⟩, ?_⟩
      · rw [HD.out]; rfl
      · rw [HG.out]; exact GramIs.zero _
      · exact below_drew hb9
  | ok ms =>
    obtain ⟨hsane, hcnt⟩ := lex_sane hlex
    have hG : Rd.readG (bl s) = (Rd.parse (ms.map (mkOf (bl s)))).grammar := by unfold Rd.readG; rw [hlex]
    have hD : Rd.readD (bl s) = (Rd.parse (ms.map (mkOf (bl s)))).diag := by unfold Rd.readD; rw [hlex]
    have hMs : (lex (bl s)).marks (bl s) = ms.map (mkOf (bl s)) := by rw [hlex]; rfl
    have hDs : (lex (bl s)).diag (bl s) = (0, 0, 0) := by rw [hlex]; rfl
    generalize ms.map (mkOf (bl s)) = MS at hsane hcnt hG hD hMs
    have HMs := Lib.hid hMs
    have HDs := Lib.hid hDs
    have HG := Lib.hid hG
    have HD := Lib.hid hD
    have HSN := Lib.hid hsane
    clear hlex hMs hDs hG hD hsane
    go_enter Tryz.func45, Tryz.ntmps45
    go_wp2_with fail
    have hb0 : Below w.heap.size w ((w.alloc (.cells #[.slice none 0 0, .slice none 0 0, .slice none 0 0, .string ⟨#[]⟩, .slice none 0 0] 27)).alloc (.cells #[.int .i64 0, .int .i64 0, .int .i64 0] 82)) := ((Below.refl _ _).alloc (Nat.le_refl _) _).alloc (by simp) _
    have hgg0 := ((At.new w 27 #[.slice none 0 0, .slice none 0 0, .slice none 0 0, .string ⟨#[]⟩, .slice none 0 0]).alloc (.cells #[.int .i64 0, .int .i64 0, .int .i64 0] 82))
    have hdd0 := At.new (w.alloc (.cells #[.slice none 0 0, .slice none 0 0, .slice none 0 0, .string ⟨#[]⟩, .slice none 0 0] 27)) 82 #[.int .i64 0, .int .i64 0, .int .i64 0]
    have hdd0' : At ((w.alloc (.cells #[.slice none 0 0, .slice none 0 0, .slice none 0 0, .string ⟨#[]⟩, .slice none 0 0] 27)).alloc (.cells #[.int .i64 0, .int .i64 0, .int .i64 0] 82)) (w.heap.size + 1) 82 #[.int .i64 0, .int .i64 0, .int .i64 0] := by simpa using hdd0
    have hT0 : Tab ((w.alloc (.cells #[.slice none 0 0, .slice none 0 0, .slice none 0 0, .string ⟨#[]⟩, .slice none 0 0] 27)).alloc (.cells #[.int .i64 0, .int .i64 0, .int .i64 0] 82)) := HT.out.below hb0 h0
    obtain ⟨w0, hw0⟩ : ∃ w0, (w.alloc (.cells #[.slice none 0 0, .slice none 0 0, .slice none 0 0, .string ⟨#[]⟩, .slice none 0 0] 27)).alloc (.cells #[.int .i64 0, .int .i64 0, .int .i64 0] 82) = w0 := ⟨_, rfl⟩
    have hs0 : w0.heap.size = w.heap.size + 1 + 1 := by rw [← hw0]; simp
    rw [hw0] at hb0 hgg0 hdd0' hT0 ⊢
    have hB0 := hb0.size
    obtain ⟨gg, hgg⟩ : ∃ gg, w.heap.size = gg := ⟨_, rfl⟩
    obtain ⟨gd, hgd⟩ : ∃ gd, gg + 1 = gd := ⟨_, rfl⟩
    rw [hgg] at hgg0 hs0
    rw [hgg, hgd] at hdd0'
    rw [hgg, hgd]
    rw [hgd] at hs0
    have HGG0 := Lib.hid hgg0
    have HDD0 := Lib.hid hdd0'
    have HB0 := Lib.hid hb0
    clear hdd0 hdd0' hgg0 hb0 hw0
    refine (lex_room s w0 hm hT0 (by omega)).mono ?_
    intro e w1 hlx
    obtain ⟨⟨⟨A, cap, he, hma⟩, hb1⟩, hroom⟩ := hlx
    subst he
    have hcap := hroom A _ cap _ rfl
    have HMA := Lib.hid hma
    rw [HMs.out, HDs.out]
    rw [HMs.out] at hcap
    simp only [diagV]
    have HGG1 := Lib.hid ((HGG0.out.below hb1 HGG0.out.lt).alloc (.cells #[.int .i64 0, .int .i64 0, .int .i64 0] 82))
    have HDD1 := Lib.hid ((HDD0.out.below hb1 HDD0.out.lt).alloc (.cells #[.int .i64 0, .int .i64 0, .int .i64 0] 82))
    have HB1 := Lib.hid ((HB0.out.trans (hb1.mono (by omega))).alloc (by have := hb1.size; omega) (.cells #[.int .i64 0, .int .i64 0, .int .i64 0] 82))
    have hs1 := hb1.size
    have hlie := hma.lie.alloc (.cells #[.int .i64 0, .int .i64 0, .int .i64 0] 82)
    rw [HMs.out] at hlie
    have HLIE := Lib.hid hlie
    clear hma hroom hb1 hlie HMA
    have z0 : ((0 : Nat) : Int) = 0 := rfl
    go_wp2_with fail
    obtain ⟨W, hW⟩ : ∃ W, w1.alloc (.cells #[.int .i64 0, .int .i64 0, .int .i64 0] 82) = W := ⟨_, rfl⟩
    rw [hW] at HGG1 HDD1 HB1 HLIE ⊢
    clear hW
    refine (marks_any A cap MS W hcap HSN.out HLIE.out hcnt).mono ?_
    intro e w9 hmt
    obtain ⟨⟨gv, he, hgi⟩, hb9⟩ := hmt
    obtain ⟨tv, sv, lv, rv, hgv, ⟨A1, s1, t1, k1⟩, ⟨A2, s2, t2, k2⟩, ⟨A3, s3, pl, t3, q3, k3, j3⟩, ⟨A4, s4, ql, t4, q4, k4, j4⟩⟩ := hgi.ex
    obtain ⟨PG, hPG⟩ : ∃ PG, (Rd.parse MS).grammar = PG := ⟨_, rfl⟩
    obtain ⟨u1, u2, u3, hPD⟩ : ∃ u1 u2 u3, (Rd.parse MS).diag = (u1, u2, u3) := ⟨_, _, _, rfl⟩
    rw [hPG] at hgi hgv t1 t2 t3 t4
    rw [hPD] at he
    subst hgv he t1 t2 t3 t4
    have HGI := Lib.hid hgi
    have HPG := Lib.hid hPG
    have HPD := Lib.hid hPD
    have HGG9 := Lib.hid (HGG1.out.below hb9 HGG1.out.lt)
    have HDD9 := Lib.hid (HDD1.out.below hb9 HDD1.out.lt)
    have HB9 := Lib.hid (HB1.out.trans (hb9.mono HB1.out.size))
    clear hgi hPG hPD hb9 k1 k2 k3 j3 k4 j4 q3 q4
    simp only [diagV]
    have g0 := HGG9.out.cell 0
    have g1 := HGG9.out.cell 1
    have g2 := HGG9.out.cell 2
    have g3 := HGG9.out.cell 3
    have g4 := HGG9.out.cell 4
    have gf := HGG9.out.frozen
    have d0 := HDD9.out.cell 0
    have d1 := HDD9.out.cell 1
    have d2 := HDD9.out.cell 2
    have df := HDD9.out.frozen
    simp only [List.getElem?_toArray, List.getElem?_cons_zero, List.getElem?_cons_succ] at g0 g1 g2 g3 g4 d0 d1 d2
    have n1 : ¬ (gg = gd) := by omega
    have n2 : ¬ (gd = gg) := by omega
    go_wp2_with fail
    have f1 := grown_five w9 gg (.slice A1 PG.toks.length s1) (.slice A2 PG.skips.length s2) (.slice A3 PG.levels.length s3) (.string (str PG.start)) (.slice A4 PG.rules.length s4)
    have e1 := HGG9.out.five_ (.slice A1 PG.toks.length s1) (.slice A2 PG.skips.length s2) (.slice A3 PG.levels.length s3) (.string (str PG.start)) (.slice A4 PG.rules.length s4)
    have e2' := rest_far HDD9.out f1 n2
    have e2 := e2'.three (.int .i64 (u1 : Int)) (.int .i64 (u2 : Int)) (.int .i64 (u3 : Int))
    have f2 := grown_three (((((w9.setCell ⟨gg, 0, none⟩ (.slice A1 PG.toks.length s1)).setCell ⟨gg, 1, none⟩ (.slice A2 PG.skips.length s2)).setCell ⟨gg, 2, none⟩ (.slice A3 PG.levels.length s3)).setCell ⟨gg, 3, none⟩ (.string (str PG.start))).setCell ⟨gg, 4, none⟩ (.slice A4 PG.rules.length s4)) gd (.int .i64 (u1 : Int)) (.int .i64 (u2 : Int)) (.int .i64 (u3 : Int))
    have e3 := rest_far e1 f2 n1
    have hb9 := below_grown (below_grown HB9.out f1 HB9.out.size (by omega)) f2 (by have := HB9.out.size; have := f1.size; omega) (by omega)
    refine bodyPost_ret (results_cell_cell rfl _ _ gg _ _ _ rfl e3 Tryz.underlying27 rfl Tryz.sizeGrammar gd _ _ _ rfl e2 Tryz.underlying82 rfl Tryz.sizeDiag) rfl ⟨⟨.agg #[.slice A1 PG.toks.length s1, .slice A2 PG.skips.length s2, .slice A3 PG.levels.length s3, .string (str PG.start), .slice A4 PG.rules.length s4], ?_, ?_⟩, ?_⟩
    · rw [HD.out, HPD.out]; rfl
    · rw [HG.out, HPG.out]
      exact (HGI.out.five ⟨Stay.far HGG9.out (by decide) f1, Stay.far HGG9.out (by decide) f1, Stay.far HGG9.out (by decide) f1, Stay.far HGG9.out (by decide) f1, Stay.far HGG9.out (by decide) f1⟩).five ⟨Stay.far e2' (by decide) f2, Stay.far e2' (by decide) f2, Stay.far e2' (by decide) f2, Stay.far e2' (by decide) f2, Stay.far e2' (by decide) f2⟩
    · exact hb9

end Go.Proofs.YtpgmapjjjpcmfaaGreatDoor

namespace Go.Proofs.YtpgmapjjjpcmfaaGreatDoor
open Go.RowKit
open Lx
set_option linter.unusedVariables false
set_option linter.unusedSimpArgs false
set_option maxRecDepth 100000

/-- Read told this grammar, and this of what is wrong. -/
structure ReadIs (G : Rd.G) (D : Nat × Nat × Nat) (w : World) (e : Ending) (w' : World) : Prop where
  ex : ∃ gv, e = .returned (.tuple #[gv, diagV D]) ∧ GramIs w' gv G
  below : Below w.heap.size w w'
theorem read_is (s : ByteArray) (G : Rd.G) (D : Nat × Nat × Nat) (w : World) (hm : s.size ≤ 9223372036854775807) (hT : Tab w) (h0 : 1 < w.heap.size) (h1 : Rd.readG (bl s) = G) (h2 : Rd.readD (bl s) = D) :
    Calls Tryz.prog 45 #[.string s] w (ReadIs G D w) := by
  subst h1 h2
  exact (read_any s w hm hT h0).mono fun e w' h => ⟨h.ex, h.below⟩

theorem ra1 : Rd.readG [37, 116, 111, 107, 101, 110, 32, 78, 32, 91, 48, 45, 57, 93, 43, 32, 37, 37, 32, 69, 32, 58, 32, 69, 32, 78, 32, 123, 49, 125, 32, 124, 32, 59] = ⟨[⟨[78], ⟨[], [48, 49, 50, 51, 52, 53, 54, 55, 56, 57], true⟩⟩], [], [], [69], [⟨[69], [[69], [78]], [], [49]⟩, ⟨[69], [], [], []⟩]⟩ := by decide +kernel
theorem ra1d : Rd.readD [37, 116, 111, 107, 101, 110, 32, 78, 32, 91, 48, 45, 57, 93, 43, 32, 37, 37, 32, 69, 32, 58, 32, 69, 32, 78, 32, 123, 49, 125, 32, 124, 32, 59] = (0, 0, 0) := by decide +kernel
theorem ra2 : Rd.readG [37, 37, 32, 69, 32, 58, 32, 59, 32, 70] = Rd.zero := by decide +kernel
theorem ra2d : Rd.readD [37, 37, 32, 69, 32, 58, 32, 59, 32, 70] = (14, 1, 11) := by decide +kernel
theorem ra3 : Rd.readG [37, 108, 101, 102, 116, 32, 65, 32, 65, 32, 37, 37] = Rd.zero := by decide +kernel
theorem ra3d : Rd.readD [37, 108, 101, 102, 116, 32, 65, 32, 65, 32, 37, 37] = (15, 1, 9) := by decide +kernel

/-- The two blocks that hold what Read told. -/
theorem two_new (w : World) (gc dc : Array Value) : At ((w.alloc (.cells gc 27)).alloc (.cells dc 82)) w.heap.size 27 gc ∧ At ((w.alloc (.cells gc 27)).alloc (.cells dc 82)) (w.heap.size + 1) 82 dc ∧
    Below w.heap.size w ((w.alloc (.cells gc 27)).alloc (.cells dc 82)) := by
  refine ⟨(At.new w _ gc).alloc _, ?_, ((Below.refl _ _).alloc (Nat.le_refl _) _).alloc (by simp) _⟩
  have := At.new (w.alloc (.cells gc 27)) 82 dc
  simpa using this


end Go.Proofs.YtpgmapjjjpcmfaaGreatDoor

namespace Go.Proofs.YtpgmapjjjpcmfaaGreatDoor
open Go.RowKit
open Lx
set_option linter.unusedVariables false
set_option linter.unusedSimpArgs false
set_option maxRecDepth 100000

theorem flat_get {α : Type} (f : α → List Value) (n : Nat) (hf : ∀ x, (f x).length = n) : ∀ (l : List α) (i j : Nat) (x : α) (u : Value), l[i]? = some x → j < n → (f x)[j]? = some u → (l.flatMap f)[i * n + j]? = some u
  | [], i, j, x, u, h, _, _ => by simp at h
  | s :: r, 0, j, x, u, h, hj, hu => by
    simp at h; subst h
    rw [List.flatMap_cons, List.getElem?_append_left (by rw [hf]; omega)]
    simpa using hu
  | s :: r, i + 1, j, x, u, h, hj, hu => by
    have ih := flat_get f n hf r i j x u (by simpa using h) hj hu
    rw [List.flatMap_cons, List.getElem?_append_right (by rw [hf, Nat.add_mul]; omega), hf]
    have e : (i + 1) * n + j - n = i * n + j := by rw [Nat.add_mul]; omega
    rw [e, ih]
theorem some_get {α : Type} {l : List α} {i : Nat} (h : i < l.length) : ∃ x, l[i]? = some x := ⟨_, List.getElem?_eq_getElem h⟩

theorem texts_same (A1 A2 : Option Addr) (c1 c2 : Nat) (l : List Rd.Name) (w : World) (h1 : Lie w 9 A1 (namesV l)) (h2 : Lie w 9 A2 (namesV l)) (hl : l.length ≤ 1000000) :
    Calls Tryz.prog 56 #[.slice A1 l.length c1, .slice A2 l.length c2] w fun e w' => e = .returned (.bool true) ∧ ∃ n, w' = w.drewN n := by
  have H1 := Lib.hid h1
  have H2 := Lib.hid h2
  obtain ⟨n, hn⟩ : ∃ n, l.length = n := ⟨_, rfl⟩
  rw [hn] at hl ⊢
  have HN := Lib.hid hn
  clear h1 h2 hn
  go_enter Tryz.func56, Tryz.ntmps56
  go_wp2_with fail
  go_loopw [5] (fun i wr => ∃ (k m : Nat), k ≤ n ∧ i = .int .i64 (k : Int) ∧ wr = w.drewN m) (fun i _ => n - (intOf i).toNat)
  case atStart => exact ⟨0, 0, by omega, rfl, rfl⟩
  case round =>
    obtain ⟨k, m, hk, rfl, rfl⟩ := hrel
    by_cases hlt : k < n
    · obtain ⟨x, hx⟩ := some_get (l := l) (i := k) (by rw [HN.out]; exact hlt)
      have hv : (namesV l)[k]? = some (.string (str x)) := by simp [namesV, hx]
      have hne : namesV l ≠ [] := fun e => by rw [e] at hv; simp at hv
      obtain ⟨b1, o1, rfl, _, f1⟩ := H1.out.cell hne
      obtain ⟨b2, o2, rfl, _, f2⟩ := H2.out.cell hne
      have cc : w.cell? ⟨b1, o1 + k, none⟩ = some (.string (str x)) := f1 _ _ hv
      have dd : w.cell? ⟨b2, o2 + k, none⟩ = some (.string (str x)) := f2 _ _ hv
      have t1 : ((str x).toList == (str x).toList) = true := by simp
      have t2 : ((str x).toList != (str x).toList) = false := by simp
      have hki : (k : Int) < (n : Int) := by omega
      have hk0 : (0 : Int) ≤ (k : Int) := by omega
      clear hx hv hne f1 f2
      go_wp2_with fail
      go_quiet (fail)
      go_wp2_with fail
      go_roundw
      case rel => exact ⟨k + 1, _, by omega, by go_num, rfl⟩
      case measure => simp [intOf]; omega
    · obtain rfl : n = k := by omega
      go_wp2_with fail
      go_ret
      exact ⟨rfl, m, rfl⟩

theorem quiet_texts {w : World} {q : Nat} {f : FuncId} {args : Array Value} {v : Value} (h : Calls Tryz.prog f args (w.drewN q) fun e w' => e = .returned v ∧ ∃ n, w' = (w.drewN q).drewN n) : Calls Tryz.prog f args (w.drewN q) fun e w'' => e = .returned v ∧ ∃ m, w'' = w.drewN m :=
  h.mono fun _ _ ⟨he, n, hm⟩ => ⟨he, q + n, by rw [hm, World.drewN_drewN]⟩


end Go.Proofs.YtpgmapjjjpcmfaaGreatDoor

namespace Go.Proofs.YtpgmapjjjpcmfaaGreatDoor
namespace Rd
open Lx (Mk)
set_option linter.unusedVariables false
set_option linter.unusedSimpArgs false

/-- The last mark is an end. -/
def Good (ms : List Mk) : Prop := ∃ p e, ms = p ++ [e] ∧ e.kind = 0
/-- What is left of marks. -/
structure Sf (ms r : List Mk) : Prop where
  suf : r <:+ ms
  good : Good ms → Good r
theorem Sf.refl (ms : List Mk) : Sf ms ms := ⟨List.suffix_refl _, fun h => h⟩
theorem Sf.trans {a b c : List Mk} (h : Sf a b) (k : Sf b c) : Sf a c := ⟨k.suf.trans h.suf, fun g => k.good (h.good g)⟩
theorem Sf.tail {ms : List Mk} (h : (hd ms).kind ≠ 0) : Sf ms ms.tail := by
  refine ⟨List.tail_suffix _, ?_⟩
  rintro ⟨p, e, rfl, he⟩
  cases p with
  | nil => exact absurd he h
  | cons m p => exact ⟨p, e, rfl, he⟩
theorem Good.ne {ms : List Mk} (h : Good ms) : ms ≠ [] := by obtain ⟨p, e, rfl, _⟩ := h; simp
def Res.Sf {α : Type} (ms : List Mk) (x : Res α) : Prop := Rd.Sf ms x.rest
theorem Res.Sf.trans {α : Type} {a b : List Mk} {x : Res α} (h : Rd.Sf a b) (k : x.Sf b) : x.Sf a := Rd.Sf.trans h k

theorem pattern_sf (ms : List Mk) : (pattern ms).Sf ms := by
  unfold pattern
  split
  · exact Sf.tail (by omega)
  · split
    · split
      · exact (Sf.tail (ms := ms) (by omega)).trans (Sf.tail (by omega))
      · exact Sf.tail (by omega)
    · exact Sf.refl _
theorem names_sf (lev : List Name) (ms : List Mk) (acc : List Name) : (names lev ms acc).Sf ms := by
  fun_induction names lev ms acc
  · exact Sf.refl _
  · exact Sf.refl _
  · rename_i m r acc h1 h2 ih
    exact (Sf.tail (ms := m :: r) (by rw [hd_cons]; omega)).trans ih
  · exact Sf.refl _
theorem rights_sf (ms : List Mk) (acc : List Name) : (rights ms acc).Sf ms := by
  fun_induction rights ms acc
  · exact Sf.refl _
  · exact Sf.refl _
  · rename_i m r acc h1 h2 ih
    exact (Sf.tail (ms := m :: r) (by rw [hd_cons]; omega)).trans ih
  · exact Sf.refl _
theorem word_kind {t : Name} {m : Mk} (h : isWord t m = true) : m.kind = 2 := by
  unfold isWord at h
  simp at h
  exact h.1
theorem prec_sf (ms : List Mk) : (prec ms).Sf ms := by
  unfold prec
  split
  · rename_i h
    have hk := word_kind h
    split
    · exact (Sf.tail (ms := ms) (by omega)).trans (Sf.tail (by omega))
    · exact Sf.tail (by omega)
  · exact Sf.refl _
theorem action_sf (x : Rule) (ms : List Mk) : (action x ms).Sf ms := by
  unfold action
  split
  · exact Sf.tail (by omega)
  · exact Sf.refl _
theorem alt_sf (left : Name) (n : Nat) (ms : List Mk) : (alt left n ms).Sf ms := by
  unfold alt
  split
  · exact Sf.refl _
  · have h1 := rights_sf ms []
    cases hr : rights ms [] with
    | bad e r => rw [hr] at h1; exact h1
    | ok l r =>
      rw [hr] at h1
      have h2 := prec_sf r
      simp only []
      cases hp : prec r with
      | bad e r' => rw [hp] at h2; exact Sf.trans h1 h2
      | ok p r' => rw [hp] at h2; exact (Sf.trans h1 h2).trans (action_sf _ r')
theorem alts_sf (f : Nat) (left : Name) (acc : List Rule) (ms : List Mk) : (alts f left acc ms).Sf ms := by
  induction f generalizing acc ms with
  | zero => exact Sf.refl _
  | succ f ih =>
    unfold alts
    have h1 := alt_sf left acc.length ms
    cases ha : alt left acc.length ms with
    | bad e r => rw [ha] at h1; exact h1
    | ok x r =>
      rw [ha] at h1
      simp only []
      split
      · rename_i h8; exact Sf.trans h1 (Sf.tail (ms := r) (by rw [h8]; decide))
      · split
        · rename_i h7; exact (Sf.trans h1 (Sf.tail (ms := r) (by rw [h7]; decide))).trans (ih _ _)
        · exact h1
theorem rule_sf (acc : List Rule) (ms : List Mk) : (rule acc ms).Sf ms := by
  unfold rule
  split
  · exact Sf.refl _
  · split
    · exact Sf.tail (ms := ms) (by omega)
    · exact ((Sf.tail (ms := ms) (by omega)).trans (Sf.tail (ms := ms.tail) (by omega))).trans (alts_sf _ _ _ _)
theorem rules_sf (f : Nat) (acc : List Rule) (ms : List Mk) : (rules f acc ms).Sf ms := by
  induction f generalizing acc ms with
  | zero => exact Sf.refl _
  | succ f ih =>
    unfold rules
    have h1 := rule_sf acc ms
    cases ha : rule acc ms with
    | bad e r => rw [ha] at h1; exact h1
    | ok x r =>
      rw [ha] at h1
      simp only []
      split
      · exact h1
      · exact Sf.trans h1 (ih _ _)
theorem token_sf (d : Decls) (ms : List Mk) (h : (hd ms).kind ≠ 0) : (token d ms).Sf ms := by
  unfold token
  have h0 := Sf.tail h
  split
  · exact h0
  · split
    · exact h0
    · split
      · exact h0
      · have h1 := pattern_sf ms.tail.tail
        have h2 : Sf ms.tail ms.tail.tail := Sf.tail (by omega)
        cases hp : pattern ms.tail.tail <;> rw [hp] at h1 <;> exact (h0.trans h2).trans h1
theorem skip_sf (d : Decls) (ms : List Mk) (h : (hd ms).kind ≠ 0) : (skip d ms).Sf ms := by
  unfold skip
  have h0 := Sf.tail h
  split
  · exact Sf.refl _
  · have h1 := pattern_sf ms.tail
    cases hp : pattern ms.tail <;> rw [hp] at h1 <;> exact h0.trans h1
theorem level_sf (a : Nat) (d : Decls) (ms : List Mk) (h : (hd ms).kind ≠ 0) : (level a d ms).Sf ms := by
  unfold level
  have h0 := Sf.tail h
  split
  · exact Sf.refl _
  · have h1 := names_sf (levelled d) ms.tail []
    cases hp : names (levelled d) ms.tail [] with
    | bad e r => rw [hp] at h1; exact h0.trans h1
    | ok l r =>
      rw [hp] at h1
      simp only []
      split <;> exact h0.trans h1
theorem start_sf (d : Decls) (ms : List Mk) (h : (hd ms).kind ≠ 0) : (start d ms).Sf ms := by
  unfold start
  have h0 := Sf.tail h
  split
  · exact Sf.refl _
  · split
    · exact h0.trans (Sf.tail (by omega))
    · exact h0
theorem decl_sf (d : Decls) (ms : List Mk) : (decl d ms).Sf ms := by
  unfold decl
  split
  · rename_i h
    generalize wordNo _ = k
    match k with
    | 0 => exact token_sf d ms (by omega)
    | 1 => exact skip_sf d ms (by omega)
    | 2 => exact level_sf 1 d ms (by omega)
    | 3 => exact level_sf 2 d ms (by omega)
    | 4 => exact level_sf 3 d ms (by omega)
    | 5 => exact start_sf d ms (by omega)
    | _ + 6 => exact Sf.refl _
  · exact Sf.refl _
theorem decls_sf (f : Nat) (d : Decls) (ms : List Mk) : (decls f d ms).Sf ms := by
  induction f generalizing d ms with
  | zero => exact Sf.refl _
  | succ f ih =>
    unfold decls
    split
    · rename_i h
      have := word_kind h
      exact Sf.tail (by omega)
    · have h1 := decl_sf d ms
      cases ha : decl d ms with
      | bad e r => rw [ha] at h1; exact h1
      | ok x r => rw [ha] at h1; exact Sf.trans h1 (ih _ _)
theorem parse_sf (ms : List Mk) : (parse ms).Sf ms := by
  unfold parse
  have h1 := decls_sf (ms.length + 1) none_ ms
  cases hd : decls (ms.length + 1) none_ ms with
  | bad e r => rw [hd] at h1; exact h1
  | ok d r =>
    rw [hd] at h1
    have h2 := rules_sf (r.length + 1) [] r
    simp only []
    cases hr : rules (r.length + 1) [] r with
    | bad e r' => rw [hr] at h2; exact Sf.trans h1 h2
    | ok rs r' => rw [hr] at h2; exact Sf.trans h1 h2
theorem parse_code {ms : List Mk} {c : Nat} {r : List Mk} (h : parse ms = .bad c r) : c ≠ 0 := by
  unfold parse at h
  cases hd : decls (ms.length + 1) none_ ms with
  | bad e r => rw [hd] at h; cases h; exact decls_code hd
  | ok d r =>
    rw [hd] at h
    simp only [] at h
    cases hr : rules (r.length + 1) [] r with
    | bad e r' => rw [hr] at h; cases h; exact rules_code hr
    | ok rs r' => rw [hr] at h; cases h
/-- What is wrong is so with one of the marks. -/
theorem parse_bad {ms : List Mk} {c : Nat} {r : List Mk} (h : parse ms = .bad c r) (hg : Good ms) : c ≠ 0 ∧ hd r ∈ ms := by
  have h1 := parse_sf ms
  rw [h] at h1
  have h2 : Sf ms r := h1
  refine ⟨parse_code h, ?_⟩
  have hne := (h2.good hg).ne
  cases r with
  | nil => exact absurd rfl hne
  | cons m r' => exact h2.suf.subset (by simp [hd_cons])

/-! ## What is read -/

/-- Names are not empty. -/
def Tx (ms : List Mk) : Prop := ∀ m ∈ ms, m.kind = 1 → m.text ≠ []
theorem Tx.sf {ms r : List Mk} (h : Tx ms) (k : Sf ms r) : Tx r := fun m hm => h m (k.suf.subset hm)
theorem Tx.hd {ms : List Mk} (h : Tx ms) (h1 : (hd ms).kind = 1) : (hd ms).text ≠ [] := by
  cases ms with
  | nil => simp [hd_nil] at h1
  | cons m r => exact h m (by simp) h1

structure DOk (d : Decls) : Prop where
  toks : (d.toks.map Tok.name).Nodup
  ntok : d.toks.length ≤ 20
  nskip : d.skips.length ≤ 4
  nlev : d.levels.length ≤ 10
  lev : (levelled d).Nodup
  each : ∀ l ∈ d.levels, l.names ≠ [] ∧ 1 ≤ l.assoc ∧ l.assoc ≤ 3
  start : d.started = true → d.start ≠ []
theorem DOk.none_ : DOk none_ := ⟨List.nodup_nil, by decide, by decide, by decide, List.nodup_nil, by simp [Rd.none_], by simp [Rd.none_]⟩
theorem token_ok {d d' : Decls} {ms r : List Mk} (h : DOk d) (he : token d ms = .ok d' r) : DOk d' := by
  unfold token at he
  split at he
  · cases he
  · split at he
    · cases he
    · rename_i hany
      split at he
      · cases he
      · cases hp : pattern ms.tail.tail with
        | bad e r' => rw [hp] at he; cases he
        | ok p r' =>
          rw [hp] at he
          cases he
          refine ⟨?_, by simp; have := h.ntok; omega, h.nskip, h.nlev, h.lev, h.each, h.start⟩
          rw [List.map_append, List.nodup_append]
          refine ⟨h.toks, by simp, fun a ha b hb e => ?_⟩
          simp at hb
          subst hb
          rw [e] at ha
          obtain ⟨t, ht, hn⟩ := List.mem_map.1 ha
          apply hany
          rw [List.any_eq_true]
          exact ⟨t, ht, by simp [hn]⟩
theorem skip_ok {d d' : Decls} {ms r : List Mk} (h : DOk d) (he : skip d ms = .ok d' r) : DOk d' := by
  unfold skip at he
  split at he
  · cases he
  · cases hp : pattern ms.tail with
    | bad e r' => rw [hp] at he; cases he
    | ok p r' =>
      rw [hp] at he
      cases he
      exact ⟨h.toks, h.ntok, by simp; have := h.nskip; omega, h.nlev, h.lev, h.each, h.start⟩
theorem names_nodup {lev : List Name} {ms : List Mk} {acc l : List Name} {r : List Mk} : (lev ++ acc).Nodup → names lev ms acc = .ok l r → (lev ++ l).Nodup := by
  fun_induction names lev ms acc
  · intro hn h; cases h; exact hn
  · intro hn h; cases h
  · rename_i m r acc h1 h2 ih
    intro hn h
    refine ih ?_ h
    rw [← List.append_assoc, List.nodup_append]
    refine ⟨hn, by simp, fun a ha b hb e => ?_⟩
    simp at hb
    subst hb
    rw [e] at ha
    exact h2 ha
  · intro hn h; cases h; exact hn
theorem level_ok {a : Nat} {d d' : Decls} {ms r : List Mk} (ha : 1 ≤ a ∧ a ≤ 3) (h : DOk d) (he : level a d ms = .ok d' r) : DOk d' := by
  unfold level at he
  split at he
  · cases he
  · cases hn : names (levelled d) ms.tail [] with
    | bad e r' => rw [hn] at he; cases he
    | ok l r' =>
      rw [hn] at he
      simp only [] at he
      split at he
      · cases he
      · rename_i hl
        cases he
        have h2 := names_nodup (by simpa using h.lev) hn
        refine ⟨h.toks, h.ntok, h.nskip, by simp; have := h.nlev; omega, ?_, ?_, h.start⟩
        · have : levelled { d with levels := d.levels ++ [⟨a, l⟩] } = levelled d ++ l := by simp [levelled]
          rw [this]; exact h2
        · intro x hx
          rcases List.mem_append.1 hx with hx | hx
          · exact h.each x hx
          · simp at hx; subst hx; exact ⟨hl, ha⟩
theorem start_ok {d d' : Decls} {ms r : List Mk} (h : DOk d) (ht : Tx ms) (hk : (hd ms).kind ≠ 0) (he : start d ms = .ok d' r) : DOk d' := by
  unfold start at he
  split at he
  · cases he
  · split at he
    · rename_i h1
      cases he
      exact ⟨h.toks, h.ntok, h.nskip, h.nlev, h.lev, h.each, fun _ => (ht.sf (Sf.tail hk)).hd h1⟩
    · cases he
theorem decl_ok {d d' : Decls} {ms r : List Mk} (h : DOk d) (ht : Tx ms) (he : decl d ms = .ok d' r) : DOk d' := by
  unfold decl at he
  split at he
  · rename_i hk
    revert he
    generalize wordNo _ = k
    intro he
    match k, he with
    | 0, he => exact token_ok h he
    | 1, he => exact skip_ok h he
    | 2, he => exact level_ok (by decide) h he
    | 3, he => exact level_ok (by decide) h he
    | 4, he => exact level_ok (by decide) h he
    | 5, he => exact start_ok h ht (by omega) he
    | _ + 6, he => cases he
  · cases he
theorem decls_ok {f : Nat} {d d' : Decls} {ms r : List Mk} (h : DOk d) (ht : Tx ms) (he : decls f d ms = .ok d' r) : DOk d' := by
  induction f generalizing d ms with
  | zero => unfold decls at he; cases he
  | succ f ih =>
    unfold decls at he
    split at he
    · cases he; exact h
    · have h1 := decl_sf d ms
      cases hd : decl d ms with
      | bad e r' => rw [hd] at he; cases he
      | ok d2 r' =>
        rw [hd] at he h1
        exact ih (decl_ok h ht hd) (ht.sf h1) he
/-- Rules that are read: each has a name, and no more on its right than may be. -/
def ROk (rs : List Rule) : Prop := rs.length ≤ 40 ∧ ∀ r ∈ rs, r.left ≠ [] ∧ r.right.length ≤ 8
theorem rights_len {ms : List Mk} {acc l : List Name} {r : List Mk} : acc.length ≤ 8 → rights ms acc = .ok l r → l.length ≤ 8 := by
  fun_induction rights ms acc
  · intro hn h; cases h; exact hn
  · intro hn h; cases h
  · rename_i m r acc h1 h2 ih
    intro hn h
    exact ih (by simp; omega) h
  · intro hn h; cases h; exact hn
theorem alt_ok {left : Name} {n : Nat} {ms r : List Mk} {x : Rule} (he : alt left n ms = .ok x r) : n ≠ 40 ∧ x.left = left ∧ x.right.length ≤ 8 := by
  unfold alt at he
  split at he
  · cases he
  · rename_i hn
    cases hr : rights ms [] with
    | bad e r' => rw [hr] at he; cases he
    | ok l r' =>
      rw [hr] at he
      simp only [] at he
      have hl := rights_len (by simp) hr
      cases hp : prec r' with
      | bad e r2 => rw [hp] at he; cases he
      | ok p r2 =>
        rw [hp] at he
        simp only [] at he
        unfold action at he
        split at he <;> cases he <;> exact ⟨hn, rfl, hl⟩
theorem alts_ok_ {f : Nat} {left : Name} {acc rs : List Rule} {ms r : List Mk} (h : ROk acc) (hl : left ≠ []) (he : alts f left acc ms = .ok rs r) : ROk rs := by
  induction f generalizing acc ms with
  | zero => unfold alts at he; cases he
  | succ f ih =>
    unfold alts at he
    cases ha : alt left acc.length ms with
    | bad e r' => rw [ha] at he; cases he
    | ok x r' =>
      rw [ha] at he
      simp only [] at he
      obtain ⟨h1, h2, h3⟩ := alt_ok ha
      have hn : ROk (acc ++ [x]) := ⟨by simp; have := h.1; omega, fun y hy => by
        rcases List.mem_append.1 hy with hy | hy
        · exact h.2 y hy
        · simp at hy; subst hy; exact ⟨by rw [h2]; exact hl, h3⟩⟩
      split at he
      · cases he; exact hn
      · split at he
        · exact ih hn he
        · cases he
theorem rule_ok_ {acc rs : List Rule} {ms r : List Mk} (h : ROk acc) (ht : Tx ms) (he : rule acc ms = .ok rs r) : ROk rs := by
  unfold rule at he
  split at he
  · cases he
  · rename_i h1
    split at he
    · cases he
    · exact alts_ok_ h (ht.hd (by omega)) he
theorem rules_ok_ {f : Nat} {acc rs : List Rule} {ms r : List Mk} (h : ROk acc) (ht : Tx ms) (he : rules f acc ms = .ok rs r) : ROk rs := by
  induction f generalizing acc ms with
  | zero => unfold rules at he; cases he
  | succ f ih =>
    unfold rules at he
    have h1 := rule_sf acc ms
    cases hd : rule acc ms with
    | bad e r' => rw [hd] at he; cases he
    | ok d' r' =>
      rw [hd] at he h1
      simp only [] at he
      split at he
      · cases he; exact rule_ok_ h ht hd
      · exact ih (rule_ok_ h ht hd) (ht.sf h1) he
structure GOk (G : G) : Prop where
  toks : (G.toks.map Tok.name).Nodup
  ntok : G.toks.length ≤ 20
  nskip : G.skips.length ≤ 4
  nlev : G.levels.length ≤ 10
  lev : (G.levels.flatMap Lev.names).Nodup
  each : ∀ l ∈ G.levels, l.names ≠ [] ∧ 1 ≤ l.assoc ∧ l.assoc ≤ 3
  start : G.start ≠ []
  rules : G.rules ≠ []
  rok : ROk G.rules
theorem parse_ok {ms r : List Mk} {g : G} (ht : Tx ms) (he : parse ms = .ok g r) : GOk g := by
  unfold parse at he
  cases hd : decls (ms.length + 1) none_ ms with
  | bad e r => rw [hd] at he; cases he
  | ok d r =>
    rw [hd] at he
    simp only [] at he
    have h1 := decls_sf (ms.length + 1) none_ ms
    rw [hd] at h1
    have h2 := decls_ok DOk.none_ ht hd
    cases hr : rules (r.length + 1) [] r with
    | bad e r' => rw [hr] at he; cases he
    | ok rs r' =>
      rw [hr] at he
      cases he
      have h3 := rules_ne hr
      have h4 := rules_ok_ ⟨by simp, by simp⟩ (ht.sf h1) hr
      refine ⟨h2.toks, h2.ntok, h2.nskip, h2.nlev, h2.lev, h2.each, ?_, h3, h4⟩
      unfold startOf
      split
      · exact h2.start ‹_›
      · obtain ⟨x, l, rfl⟩ := List.exists_cons_of_ne_nil h3
        exact (h4.2 x (by simp)).1

theorem names_count {lev : List Name} {ms : List Mk} {acc l : List Name} {r : List Mk} : names lev ms acc = .ok l r → l.length + r.length = acc.length + ms.length := by
  fun_induction names lev ms acc
  · intro h; cases h; rfl
  · intro h; cases h
  · rename_i m r acc h1 h2 ih
    intro h
    have := ih h
    simp at this ⊢; omega
  · intro h; cases h; rfl
theorem decl_count {d d' : Decls} {ms r : List Mk} (he : decl d ms = .ok d' r) : (levelled d').length + r.length ≤ (levelled d).length + ms.length := by
  have hl := decl_less d ms
  rw [he] at hl
  have hl' : r.length < ms.length := hl
  have hlev : ∀ a, level a d ms = .ok d' r → (levelled d').length + r.length ≤ (levelled d).length + ms.length := by
    intro a h
    unfold level at h
    split at h
    · cases h
    · cases hn : names (levelled d) ms.tail [] with
      | bad e r' => rw [hn] at h; cases h
      | ok l r' =>
        rw [hn] at h
        simp only [] at h
        split at h
        · cases h
        · cases h
          have h1 := names_count hn
          have : levelled { d with levels := d.levels ++ [⟨a, l⟩] } = levelled d ++ l := by simp [levelled]
          rw [this, List.length_append]
          simp at h1; omega
  unfold decl at he
  split at he
  · revert he
    generalize wordNo _ = k
    intro he
    match k, he with
    | 0, he =>
      simp only [declNo] at he
      unfold token at he
      repeat' split at he
      all_goals first
        | (cases he; done)
        | (cases he; simp only [levelled] at *; omega)
    | 1, he =>
      simp only [declNo] at he
      unfold skip at he
      repeat' split at he
      all_goals first
        | (cases he; done)
        | (cases he; simp only [levelled] at *; omega)
    | 2, he => exact hlev 1 he
    | 3, he => exact hlev 2 he
    | 4, he => exact hlev 3 he
    | 5, he =>
      simp only [declNo] at he
      unfold start at he
      repeat' split at he
      all_goals first
        | (cases he; done)
        | (cases he; simp only [levelled] at *; omega)
    | _ + 6, he => cases he
  · cases he
theorem decls_count {f : Nat} {d d' : Decls} {ms r : List Mk} (he : decls f d ms = .ok d' r) : (levelled d').length + r.length ≤ (levelled d).length + ms.length := by
  induction f generalizing d ms with
  | zero => unfold decls at he; cases he
  | succ f ih =>
    unfold decls at he
    split at he
    · cases he; simp
    · cases hd : decl d ms with
      | bad e r' => rw [hd] at he; cases he
      | ok d2 r' =>
        rw [hd] at he
        have h1 := decl_count hd
        have h2 := ih he
        omega
theorem parse_count {ms r : List Mk} {g : G} (he : parse ms = .ok g r) : (g.levels.flatMap Lev.names).length ≤ ms.length := by
  unfold parse at he
  cases hd : decls (ms.length + 1) none_ ms with
  | bad e r => rw [hd] at he; cases he
  | ok d r =>
    rw [hd] at he
    simp only [] at he
    have h1 := decls_count hd
    cases hr : rules (r.length + 1) [] r with
    | bad e r' => rw [hr] at he; cases he
    | ok rs r' =>
      rw [hr] at he
      cases he
      have e0 : (levelled none_).length = 0 := rfl
      show (levelled d).length ≤ _
      omega

/-! ## Of a text -/
theorem lex_marks_good {l : List UInt8} {ms : List Lx.M0} (h : Lx.lex l = .ok ms) : Good (ms.map (Lx.mkOf l)) ∧ Tx (ms.map (Lx.mkOf l)) ∧ ∀ m ∈ ms.map (Lx.mkOf l), ∃ i, i ≤ l.length ∧ Lx.pos l i = (m.line, m.col) := by
  obtain ⟨ms0, rfl, ho⟩ := Lx.lex_good h
  have he := Lx.lex_each h
  refine ⟨⟨ms0.map (Lx.mkOf l), Lx.mkOf l (0, [], l.length), by simp, rfl⟩, fun m hm hk => ?_, fun m hm => ?_⟩
  · obtain ⟨m0, hm0, rfl⟩ := List.mem_map.1 hm
    exact (he m0 hm0).2 hk
  · obtain ⟨m0, hm0, rfl⟩ := List.mem_map.1 hm
    refine ⟨m0.2.2, ?_, rfl⟩
    rcases List.mem_append.1 hm0 with h1 | h1
    · have := (ho.each m0 h1).2.2; omega
    · simp at h1; subst h1; exact Nat.le_refl _
theorem read_bad {l : List UInt8} {c : Nat} {P : Nat × Nat} (h : readD l = (c, P.1, P.2)) (hc : c ≠ 0) : (∃ i, i ≤ l.length ∧ Lx.pos l i = P) ∧ readG l = zero := by
  unfold readD at h
  unfold readG
  cases hx : Lx.lex l with
  | bad c' i =>
    rw [hx] at h
    simp only [Prod.mk.injEq] at h
    exact ⟨⟨i, (Lx.lex_at hx).2.2, Prod.ext h.2.1 h.2.2⟩, rfl⟩
  | ok ms =>
    rw [hx] at h
    simp only [] at h ⊢
    obtain ⟨h1, h2, h3⟩ := lex_marks_good hx
    cases hp : parse (ms.map (Lx.mkOf l)) with
    | ok g r =>
      rw [hp] at h
      simp only [Res.diag, Prod.mk.injEq] at h
      omega
    | bad e r =>
      rw [hp] at h
      simp only [Res.diag, Prod.mk.injEq] at h
      refine ⟨?_, rfl⟩
      obtain ⟨_, hm⟩ := parse_bad hp h1
      obtain ⟨i, hi, he⟩ := h3 _ hm
      exact ⟨i, hi, by rw [he]; exact Prod.ext h.2.1 h.2.2⟩
theorem read_good {l : List UInt8} {P : Nat × Nat} (h : readD l = (0, P.1, P.2)) : GOk (readG l) ∧ ((readG l).levels.flatMap Lev.names).length ≤ 4001 := by
  unfold readD at h
  unfold readG
  cases hx : Lx.lex l with
  | bad c' i =>
    rw [hx] at h
    simp only [Prod.mk.injEq] at h
    have := (Lx.lex_at hx).1
    omega
  | ok ms =>
    rw [hx] at h
    simp only [] at h ⊢
    obtain ⟨h1, h2, h3⟩ := lex_marks_good hx
    cases hp : parse (ms.map (Lx.mkOf l)) with
    | ok g r =>
      refine ⟨parse_ok h2 hp, ?_⟩
      have h4 := parse_count hp
      have h5 := lex_count hx
      have h6 := Lx.lex_len hx
      simp at h4
      show (g.levels.flatMap Lev.names).length ≤ _
      simp; omega
    | bad e r =>
      rw [hp] at h
      simp only [Res.diag, Prod.mk.injEq] at h
      exact absurd h.1 (parse_code hp)
end Rd
end Go.Proofs.YtpgmapjjjpcmfaaGreatDoor
