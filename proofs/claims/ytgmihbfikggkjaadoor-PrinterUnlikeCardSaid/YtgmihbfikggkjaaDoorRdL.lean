/-
  The walk of reader's Read.
-/
import Derived.Test.YtgmihbfikggkjaaDoorRdK
import Derived.Test.YtgmihbfikggkjaaDoorLwF
import Derived.Test.YtgmihbfikggkjaaDoorLwG
namespace Go.Proofs.YtgmihbfikggkjaaDoor
open Go.RowKit
open Lx
set_option linter.unusedVariables false
set_option linter.unusedSimpArgs false
set_option maxRecDepth 100000

namespace Lx
theorem text_kind (l told : List UInt8) (i k : Nat) (t : List UInt8) (n : Nat) : text l told i = .mark k t n → k = 3 := by
  fun_induction text l told i
  all_goals first
    | (intro h; cases h; done)
    | (intro h; cases h; rfl)
    | (rename_i ih; exact ih)
theorem cls_kind (l : List UInt8) (i : Nat) (p : Parts) (k : Nat) (t : List UInt8) (n : Nat) : cls l i p = .mark k t n → k = 4 := by
  fun_induction cls l i p
  all_goals first
    | (intro h; cases h; done)
    | (intro h; cases h; rfl)
    | (rename_i ih; exact ih)
theorem act_kind (l acc : List UInt8) (o k : Nat) (t : List UInt8) (n : Nat) : act l acc o = .mark k t n → k = 9 := by
  fun_induction act l acc o
  all_goals first
    | (intro h; cases h; done)
    | (intro h; cases h; rfl)
    | (rename_i ih; exact ih)
theorem step_name (l : List UInt8) (k : Nat) (t : List UInt8) (n : Nat) (h : step l = .mark k t n) (hk : k = 1) : t ≠ [] := by
  subst hk
  cases l with
  | nil => cases h
  | cons c r =>
    unfold step at h
    simp only [] at h
    by_cases h1 : c = 32 ∨ c = 9 ∨ c = 10 ∨ c = 13
    · rw [if_pos h1] at h; cases h
    · rw [if_neg h1] at h
      by_cases h2 : c = 35
      · rw [if_pos h2] at h; cases h
      · rw [if_neg h2] at h
        by_cases h3 : isLetter c = true
        · rw [if_pos h3] at h
          split at h
          · cases h
          · cases h
            have e : nameOf (c :: r) = if isLetter c then (c :: r).takeWhile isName else [] := rfl
            rw [e, if_pos h3, List.takeWhile_cons_of_pos (by unfold isName; rw [h3]; rfl)]
            simp
        · rw [if_neg h3] at h
          by_cases h4 : c = 37
          · rw [if_pos h4] at h
            unfold word at h
            split at h <;> cases h
          · rw [if_neg h4] at h
            by_cases h5 : c = 34
            · rw [if_pos h5] at h
              exact absurd (text_kind _ _ _ _ _ _ h) (by decide)
            · rw [if_neg h5] at h
              by_cases h6 : c = 91
              · rw [if_pos h6] at h
                exact absurd (cls_kind _ _ _ _ _ _ h) (by decide)
              · rw [if_neg h6] at h
                by_cases h7 : c = 123
                · rw [if_pos h7] at h
                  exact absurd (act_kind _ _ _ _ _ _ h) (by decide)
                · rw [if_neg h7] at h
                  repeat' split at h
                  all_goals (cases h; done)
theorem run_each (Q : Nat → List UInt8 → Prop) (hQ : ∀ l k t n, step l = .mark k t n → Q k t) (h0 : Q 0 []) : ∀ (f : Nat) (l : List UInt8) (i : Nat) (acc ms : List M0), (∀ m ∈ acc, Q m.1 m.2.1) → run f l i acc = .ok ms → ∀ m ∈ ms, Q m.1 m.2.1 := by
  intro f
  induction f with
  | zero =>
    intro l i acc ms ha h
    unfold run at h
    cases h; exact ha
  | succ f ih =>
    intro l i acc ms ha h
    by_cases hl : l = []
    · subst hl
      rw [run_end (by omega)] at h
      cases h
      intro m hm
      rcases List.mem_append.1 hm with hm | hm
      · exact ha m hm
      · simp at hm; subst hm; exact h0
    · cases hs : step l with
      | skip n => rw [run_skip (by omega) hl hs] at h; exact ih _ _ _ _ ha h
      | mark k t n =>
        rw [run_mark (by omega) hl hs] at h
        refine ih _ _ _ _ (fun m hm => ?_) h
        rcases List.mem_append.1 hm with hm | hm
        · exact ha m hm
        · simp at hm; subst hm; exact hQ _ _ _ _ hs
      | bad c n => rw [run_bad (by omega) hl hs] at h; cases h
theorem lex_each {l : List UInt8} {ms : List M0} (h : lex l = .ok ms) : ∀ m ∈ ms, m.2.1.length ≤ 256 ∧ (m.1 = 1 → m.2.1 ≠ []) := by
  unfold lex at h
  split at h
  · cases h
  · refine run_each (fun k t => t.length ≤ 256 ∧ (k = 1 → t ≠ [])) (fun l k t n hs => ⟨?_, step_name l k t n hs⟩) ⟨by simp, by simp⟩ _ _ _ _ _ (by simp) h
    cases l with
    | nil => cases hs
    | cons c r =>
      have := step_fits c r
      rw [hs] at this
      exact this.2.2.2.2
theorem lex_len {l : List UInt8} {ms : List M0} (h : lex l = .ok ms) : l.length ≤ 4000 := by
  unfold lex at h
  split at h
  · cases h
  · omega
end Lx

theorem lex_sane {l : List UInt8} {ms : List M0} (h : lex l = .ok ms) : Sane (ms.map (mkOf l)) ∧ (ms.map (mkOf l)).length ≤ 1000000 := by
  have h1 := lex_count h
  have h2 := lex_len h
  have h3 := lex_each h
  refine ⟨⟨by simp; omega, fun m hm => ?_⟩, by simp; omega⟩
  obtain ⟨m0, hm0, rfl⟩ := List.mem_map.1 hm
  have := (h3 m0 hm0).1
  show m0.2.1.length ≤ 4000
  omega

/-- What Read tells of the text l. -/
structure ReadTells (l : List UInt8) (w : World) (e : Ending) (w' : World) : Prop where
  ex : ∃ gv, e = .returned (.tuple #[gv, diagV (Rd.readD l)]) ∧ GramIs w' gv (Rd.readG l)
  below : Below w.heap.size w w'


set_option maxHeartbeats 1000000 in
theorem read_any (s : ByteArray) (w : World) (hm : s.size ≤ 9223372036854775807) (hT : Tab w) (h0 : 0 < w.heap.size) :
    Calls Tryd.prog 8 #[.string s] w (ReadTells (bl s) w) := by
  have HT := Lib.hid hT
  clear hT
  cases hlex : lex (bl s) with
  | bad c i =>
    have hcc := (lex_at hlex).1
    have hG : Rd.readG (bl s) = Rd.zero := by unfold Rd.readG; rw [hlex]
    have hD : Rd.readD (bl s) = (c, (pos (bl s) i).1, (pos (bl s) i).2) := by unfold Rd.readD; rw [hlex]
    have hMs : (lex (bl s)).marks (bl s) = [] := by rw [hlex]; rfl
    have hDs : (lex (bl s)).diag (bl s) = (c, (pos (bl s) i).1, (pos (bl s) i).2) := by rw [hlex]; rfl
    generalize pos (bl s) i = P at hD hDs
    have HMs := Lib.hid hMs
    have HDs := Lib.hid hDs
    have HG := Lib.hid hG
    have HD := Lib.hid hD
    have c1 : ((c : Int) != 0) = true := by rw [bne_iff_ne]; omega
    have c2 : (c != 0) = true := by rw [bne_iff_ne]; omega
    clear hlex hMs hDs hG hD hcc
    go_enter Tryd.func8, Tryd.ntmps8
    go_wp2_with fail
    have hb0 : Below w.heap.size w ((w.alloc (.cells #[.slice none 0 0, .slice none 0 0, .slice none 0 0, .string ⟨#[]⟩, .slice none 0 0] 35)).alloc (.cells #[.int .i64 0, .int .i64 0, .int .i64 0] 40)) := ((Below.refl _ _).alloc (Nat.le_refl _) _).alloc (by simp) _
    have hgg0 := ((At.new w 35 #[.slice none 0 0, .slice none 0 0, .slice none 0 0, .string ⟨#[]⟩, .slice none 0 0]).alloc (.cells #[.int .i64 0, .int .i64 0, .int .i64 0] 40))
    have hdd0 := At.new (w.alloc (.cells #[.slice none 0 0, .slice none 0 0, .slice none 0 0, .string ⟨#[]⟩, .slice none 0 0] 35)) 40 #[.int .i64 0, .int .i64 0, .int .i64 0]
    have hdd0' : At ((w.alloc (.cells #[.slice none 0 0, .slice none 0 0, .slice none 0 0, .string ⟨#[]⟩, .slice none 0 0] 35)).alloc (.cells #[.int .i64 0, .int .i64 0, .int .i64 0] 40)) (w.heap.size + 1) 40 #[.int .i64 0, .int .i64 0, .int .i64 0] := by simpa using hdd0
    have hT0 : Tab ((w.alloc (.cells #[.slice none 0 0, .slice none 0 0, .slice none 0 0, .string ⟨#[]⟩, .slice none 0 0] 35)).alloc (.cells #[.int .i64 0, .int .i64 0, .int .i64 0] 40)) := HT.out.below hb0 h0
    obtain ⟨w0, hw0⟩ : ∃ w0, (w.alloc (.cells #[.slice none 0 0, .slice none 0 0, .slice none 0 0, .string ⟨#[]⟩, .slice none 0 0] 35)).alloc (.cells #[.int .i64 0, .int .i64 0, .int .i64 0] 40) = w0 := ⟨_, rfl⟩
    have hs0 : w0.heap.size = w.heap.size + 1 + 1 := by rw [← hw0]; simp
    rw [hw0] at hb0 hgg0 hdd0' hT0 ⊢
    have hB0 := hb0.size
    obtain ⟨gg, hgg⟩ : ∃ gg, w.heap.size = gg := ⟨_, rfl⟩
    obtain ⟨gd, hgd⟩ : ∃ gd, gg + 1 = gd := ⟨_, rfl⟩
    rw [hgg] at hgg0 hs0
    rw [hgg, hgd] at hdd0'
    rw [hgg, hgd]
    rw [hgd] at hs0
    have HGG0 := Lib.hid hgg0
    have HDD0 := Lib.hid hdd0'
    have HB0 := Lib.hid hb0
    clear hdd0 hdd0' hgg0 hb0 hw0
    refine (lex_room s w0 hm hT0 (by omega)).mono ?_
    intro e w1 hlx
    obtain ⟨⟨⟨A, cap, he, hma⟩, hb1⟩, hroom⟩ := hlx
    subst he
    have hcap := hroom A _ cap _ rfl
    rw [HMs.out, HDs.out]
    simp only [List.length_nil, diagV]
    have HGG1 := Lib.hid ((HGG0.out.below hb1 HGG0.out.lt).alloc (.cells #[.int .i64 (c : Int), .int .i64 (P.1 : Int), .int .i64 (P.2 : Int)] 40))
    have HDD1 := Lib.hid ((HDD0.out.below hb1 HDD0.out.lt).alloc (.cells #[.int .i64 (c : Int), .int .i64 (P.1 : Int), .int .i64 (P.2 : Int)] 40))
    have HB1 := Lib.hid ((HB0.out.trans (hb1.mono (by omega))).alloc (by have := hb1.size; omega) (.cells #[.int .i64 (c : Int), .int .i64 (P.1 : Int), .int .i64 (P.2 : Int)] 40))
    have hs1 := hb1.size
    clear hma hroom hcap hb1
    go_wp2_with fail
    obtain ⟨W, hW⟩ : ∃ W, w1.alloc (.cells #[.int .i64 (c : Int), .int .i64 (P.1 : Int), .int .i64 (P.2 : Int)] 40) = W := ⟨_, rfl⟩
    have hgx := At.new w1 40 #[.int .i64 (c : Int), .int .i64 (P.1 : Int), .int .i64 (P.2 : Int)]
    obtain ⟨gx, hgxe⟩ : ∃ gx, w1.heap.size = gx := ⟨_, rfl⟩
    rw [hW] at hgx HGG1 HDD1 HB1 ⊢
    rw [hgxe] at hgx ⊢
    have n1 : ¬ (gg = gd) := by omega
    have n2 : ¬ (gd = gg) := by omega
    have n3 : ¬ (gx = gg) := by omega
    have n4 : ¬ (gg = gx) := by omega
    have n5 : ¬ (gx = gd) := by omega
    have n6 : ¬ (gd = gx) := by omega
    have x0 := hgx.cell 0
    have x1 := hgx.cell 1
    have x2 := hgx.cell 2
    simp only [List.getElem?_toArray, List.getElem?_cons_zero, List.getElem?_cons_succ] at x0 x1 x2
    have g0 := HGG1.out.cell 0
    have g1 := HGG1.out.cell 1
    have g2 := HGG1.out.cell 2
    have g3 := HGG1.out.cell 3
    have g4 := HGG1.out.cell 4
    have gf := HGG1.out.frozen
    have d0 := HDD1.out.cell 0
    have d1 := HDD1.out.cell 1
    have d2 := HDD1.out.cell 2
    have df := HDD1.out.frozen
    simp only [List.getElem?_toArray, List.getElem?_cons_zero, List.getElem?_cons_succ] at g0 g1 g2 g3 g4 d0 d1 d2
    clear hW hgx hgxe hs1
    go_region
    all_goals
      go_wp2_with fail
      have f1 := grown_five W gg (.slice none 0 0) (.slice none 0 0) (.slice none 0 0) (.string ⟨#[]⟩) (.slice none 0 0)
      have e1 := HGG1.out.five_ (.slice none 0 0) (.slice none 0 0) (.slice none 0 0) (.string ⟨#[]⟩) (.slice none 0 0)
      have e2 := (rest_far HDD1.out f1 n2).three (.int .i64 (c : Int)) (.int .i64 (P.1 : Int)) (.int .i64 (P.2 : Int))
      have f2 := grown_three (((((W.setCell ⟨gg, 0, none⟩ (.slice none 0 0)).setCell ⟨gg, 1, none⟩ (.slice none 0 0)).setCell ⟨gg, 2, none⟩ (.slice none 0 0)).setCell ⟨gg, 3, none⟩ (.string ⟨#[]⟩)).setCell ⟨gg, 4, none⟩ (.slice none 0 0)) gd (.int .i64 (c : Int)) (.int .i64 (P.1 : Int)) (.int .i64 (P.2 : Int))
      have e3 := rest_far e1 f2 n1
      have hb9 := below_grown (below_grown HB1.out f1 HB1.out.size (by omega)) f2 (by have := HB1.out.size; have := f1.size; omega) (by omega)
      refine bodyPost_ret (results_cell_cell rfl _ _ gg _ _ _ rfl e3.drew Tryd.underlying35 rfl Tryd.sizeGrammar gd _ _ _ rfl e2.drew Tryd.underlying40 rfl Tryd.sizeDiag) rfl ⟨⟨zeroG, ?_, ?_⟩, ?_⟩
      · rw [HD.out]; rfl
      · rw [HG.out]; exact GramIs.zero _
      · exact below_drew hb9
  | ok ms =>
    obtain ⟨hsane, hcnt⟩ := lex_sane hlex
    have hG : Rd.readG (bl s) = (Rd.parse (ms.map (mkOf (bl s)))).grammar := by unfold Rd.readG; rw [hlex]
    have hD : Rd.readD (bl s) = (Rd.parse (ms.map (mkOf (bl s)))).diag := by unfold Rd.readD; rw [hlex]
    have hMs : (lex (bl s)).marks (bl s) = ms.map (mkOf (bl s)) := by rw [hlex]; rfl
    have hDs : (lex (bl s)).diag (bl s) = (0, 0, 0) := by rw [hlex]; rfl
    generalize ms.map (mkOf (bl s)) = MS at hsane hcnt hG hD hMs
    have HMs := Lib.hid hMs
    have HDs := Lib.hid hDs
    have HG := Lib.hid hG
    have HD := Lib.hid hD
    have HSN := Lib.hid hsane
    clear hlex hMs hDs hG hD hsane
    go_enter Tryd.func8, Tryd.ntmps8
    go_wp2_with fail
    have hb0 : Below w.heap.size w ((w.alloc (.cells #[.slice none 0 0, .slice none 0 0, .slice none 0 0, .string ⟨#[]⟩, .slice none 0 0] 35)).alloc (.cells #[.int .i64 0, .int .i64 0, .int .i64 0] 40)) := ((Below.refl _ _).alloc (Nat.le_refl _) _).alloc (by simp) _
    have hgg0 := ((At.new w 35 #[.slice none 0 0, .slice none 0 0, .slice none 0 0, .string ⟨#[]⟩, .slice none 0 0]).alloc (.cells #[.int .i64 0, .int .i64 0, .int .i64 0] 40))
    have hdd0 := At.new (w.alloc (.cells #[.slice none 0 0, .slice none 0 0, .slice none 0 0, .string ⟨#[]⟩, .slice none 0 0] 35)) 40 #[.int .i64 0, .int .i64 0, .int .i64 0]
    have hdd0' : At ((w.alloc (.cells #[.slice none 0 0, .slice none 0 0, .slice none 0 0, .string ⟨#[]⟩, .slice none 0 0] 35)).alloc (.cells #[.int .i64 0, .int .i64 0, .int .i64 0] 40)) (w.heap.size + 1) 40 #[.int .i64 0, .int .i64 0, .int .i64 0] := by simpa using hdd0
    have hT0 : Tab ((w.alloc (.cells #[.slice none 0 0, .slice none 0 0, .slice none 0 0, .string ⟨#[]⟩, .slice none 0 0] 35)).alloc (.cells #[.int .i64 0, .int .i64 0, .int .i64 0] 40)) := HT.out.below hb0 h0
    obtain ⟨w0, hw0⟩ : ∃ w0, (w.alloc (.cells #[.slice none 0 0, .slice none 0 0, .slice none 0 0, .string ⟨#[]⟩, .slice none 0 0] 35)).alloc (.cells #[.int .i64 0, .int .i64 0, .int .i64 0] 40) = w0 := ⟨_, rfl⟩
    have hs0 : w0.heap.size = w.heap.size + 1 + 1 := by rw [← hw0]; simp
    rw [hw0] at hb0 hgg0 hdd0' hT0 ⊢
    have hB0 := hb0.size
    obtain ⟨gg, hgg⟩ : ∃ gg, w.heap.size = gg := ⟨_, rfl⟩
    obtain ⟨gd, hgd⟩ : ∃ gd, gg + 1 = gd := ⟨_, rfl⟩
    rw [hgg] at hgg0 hs0
    rw [hgg, hgd] at hdd0'
    rw [hgg, hgd]
    rw [hgd] at hs0
    have HGG0 := Lib.hid hgg0
    have HDD0 := Lib.hid hdd0'
    have HB0 := Lib.hid hb0
    clear hdd0 hdd0' hgg0 hb0 hw0
    refine (lex_room s w0 hm hT0 (by omega)).mono ?_
    intro e w1 hlx
    obtain ⟨⟨⟨A, cap, he, hma⟩, hb1⟩, hroom⟩ := hlx
    subst he
    have hcap := hroom A _ cap _ rfl
    have HMA := Lib.hid hma
    rw [HMs.out, HDs.out]
    rw [HMs.out] at hcap
    simp only [diagV]
    have HGG1 := Lib.hid ((HGG0.out.below hb1 HGG0.out.lt).alloc (.cells #[.int .i64 0, .int .i64 0, .int .i64 0] 40))
    have HDD1 := Lib.hid ((HDD0.out.below hb1 HDD0.out.lt).alloc (.cells #[.int .i64 0, .int .i64 0, .int .i64 0] 40))
    have HB1 := Lib.hid ((HB0.out.trans (hb1.mono (by omega))).alloc (by have := hb1.size; omega) (.cells #[.int .i64 0, .int .i64 0, .int .i64 0] 40))
    have hs1 := hb1.size
    have hlie := hma.lie.alloc (.cells #[.int .i64 0, .int .i64 0, .int .i64 0] 40)
    rw [HMs.out] at hlie
    have HLIE := Lib.hid hlie
    clear hma hroom hb1 hlie HMA
    have z0 : ((0 : Nat) : Int) = 0 := rfl
    go_wp2_with fail
    obtain ⟨W, hW⟩ : ∃ W, w1.alloc (.cells #[.int .i64 0, .int .i64 0, .int .i64 0] 40) = W := ⟨_, rfl⟩
    rw [hW] at HGG1 HDD1 HB1 HLIE ⊢
    clear hW
    refine (marks_any A cap MS W hcap HSN.out HLIE.out hcnt).mono ?_
    intro e w9 hmt
    obtain ⟨⟨gv, he, hgi⟩, hb9⟩ := hmt
    obtain ⟨tv, sv, lv, rv, hgv, ⟨A1, s1, t1, k1⟩, ⟨A2, s2, t2, k2⟩, ⟨A3, s3, pl, t3, q3, k3, j3⟩, ⟨A4, s4, ql, t4, q4, k4, j4⟩⟩ := hgi.ex
    obtain ⟨PG, hPG⟩ : ∃ PG, (Rd.parse MS).grammar = PG := ⟨_, rfl⟩
    obtain ⟨u1, u2, u3, hPD⟩ : ∃ u1 u2 u3, (Rd.parse MS).diag = (u1, u2, u3) := ⟨_, _, _, rfl⟩
    rw [hPG] at hgi hgv t1 t2 t3 t4
    rw [hPD] at he
    subst hgv he t1 t2 t3 t4
    have HGI := Lib.hid hgi
    have HPG := Lib.hid hPG
    have HPD := Lib.hid hPD
    have HGG9 := Lib.hid (HGG1.out.below hb9 HGG1.out.lt)
    have HDD9 := Lib.hid (HDD1.out.below hb9 HDD1.out.lt)
    have HB9 := Lib.hid (HB1.out.trans (hb9.mono HB1.out.size))
    clear hgi hPG hPD hb9 k1 k2 k3 j3 k4 j4 q3 q4
    simp only [diagV]
    have g0 := HGG9.out.cell 0
    have g1 := HGG9.out.cell 1
    have g2 := HGG9.out.cell 2
    have g3 := HGG9.out.cell 3
    have g4 := HGG9.out.cell 4
    have gf := HGG9.out.frozen
    have d0 := HDD9.out.cell 0
    have d1 := HDD9.out.cell 1
    have d2 := HDD9.out.cell 2
    have df := HDD9.out.frozen
    simp only [List.getElem?_toArray, List.getElem?_cons_zero, List.getElem?_cons_succ] at g0 g1 g2 g3 g4 d0 d1 d2
    have n1 : ¬ (gg = gd) := by omega
    have n2 : ¬ (gd = gg) := by omega
    go_wp2_with fail
    have f1 := grown_five w9 gg (.slice A1 PG.toks.length s1) (.slice A2 PG.skips.length s2) (.slice A3 PG.levels.length s3) (.string (str PG.start)) (.slice A4 PG.rules.length s4)
    have e1 := HGG9.out.five_ (.slice A1 PG.toks.length s1) (.slice A2 PG.skips.length s2) (.slice A3 PG.levels.length s3) (.string (str PG.start)) (.slice A4 PG.rules.length s4)
    have e2' := rest_far HDD9.out f1 n2
    have e2 := e2'.three (.int .i64 (u1 : Int)) (.int .i64 (u2 : Int)) (.int .i64 (u3 : Int))
    have f2 := grown_three (((((w9.setCell ⟨gg, 0, none⟩ (.slice A1 PG.toks.length s1)).setCell ⟨gg, 1, none⟩ (.slice A2 PG.skips.length s2)).setCell ⟨gg, 2, none⟩ (.slice A3 PG.levels.length s3)).setCell ⟨gg, 3, none⟩ (.string (str PG.start))).setCell ⟨gg, 4, none⟩ (.slice A4 PG.rules.length s4)) gd (.int .i64 (u1 : Int)) (.int .i64 (u2 : Int)) (.int .i64 (u3 : Int))
    have e3 := rest_far e1 f2 n1
    have hb9 := below_grown (below_grown HB9.out f1 HB9.out.size (by omega)) f2 (by have := HB9.out.size; have := f1.size; omega) (by omega)
    refine bodyPost_ret (results_cell_cell rfl _ _ gg _ _ _ rfl e3 Tryd.underlying35 rfl Tryd.sizeGrammar gd _ _ _ rfl e2 Tryd.underlying40 rfl Tryd.sizeDiag) rfl ⟨⟨.agg #[.slice A1 PG.toks.length s1, .slice A2 PG.skips.length s2, .slice A3 PG.levels.length s3, .string (str PG.start), .slice A4 PG.rules.length s4], ?_, ?_⟩, ?_⟩
    · rw [HD.out, HPD.out]; rfl
    · rw [HG.out, HPG.out]
      exact (HGI.out.five ⟨Stay.far HGG9.out (by decide) f1, Stay.far HGG9.out (by decide) f1, Stay.far HGG9.out (by decide) f1, Stay.far HGG9.out (by decide) f1, Stay.far HGG9.out (by decide) f1⟩).five ⟨Stay.far e2' (by decide) f2, Stay.far e2' (by decide) f2, Stay.far e2' (by decide) f2, Stay.far e2' (by decide) f2, Stay.far e2' (by decide) f2⟩
    · exact hb9

end Go.Proofs.YtgmihbfikggkjaaDoor
