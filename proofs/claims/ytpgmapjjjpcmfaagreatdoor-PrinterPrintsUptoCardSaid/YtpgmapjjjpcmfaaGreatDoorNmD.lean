/-
  The walk of names.symbols.
-/
import Derived.Test.YtpgmapjjjpcmfaaGreatDoorNmC
import Derived.Test.YtpgmapjjjpcmfaaGreatDoorPrY
namespace Go.Proofs.YtpgmapjjjpcmfaaGreatDoor
open Go.RowKit
open Lx
set_option linter.unusedVariables false
set_option linter.unusedSimpArgs false
set_option maxRecDepth 100000

theorem Keeps.nil_of_below {w w' : World} (h : Below w.heap.size w w') : Keeps [] w w' := ⟨h.os, h.tape, h.output, h.size, fun k hk _ => h.block k hk⟩
theorem Tryz.sizePlan : (Tryz.prog.info? 45).map (·.size) = some 6 := by kernel_rfl
theorem At.six {w : World} {g : Nat} {t : TypeId} {a b c d e f : Value} (h : At w g t #[a, b, c, d, e, f]) (a' b' c' d' e' f' : Value) :
    At ((((((w.setCell ⟨g, 0, none⟩ a').setCell ⟨g, 1, none⟩ b').setCell ⟨g, 2, none⟩ c').setCell ⟨g, 3, none⟩ d').setCell ⟨g, 4, none⟩ e').setCell ⟨g, 5, none⟩ f') g t #[a', b', c', d', e', f'] := by
  have := (((((h.set 0 a').set 1 b').set 2 c').set 3 d').set 4 e').set 5 f'
  simpa using this
theorem grown_six (w : World) (g : Nat) (a' b' c' d' e' f' : Value) : w.grownBy ((((((w.setCell ⟨g, 0, none⟩ a').setCell ⟨g, 1, none⟩ b').setCell ⟨g, 2, none⟩ c').setCell ⟨g, 3, none⟩ d').setCell ⟨g, 4, none⟩ e').setCell ⟨g, 5, none⟩ f') (some g) :=
  grown_set (grown_set (grown_set (grown_set (grown_set (grown_set (grown_refl _ _) _ _) _ _) _ _) _ _) _ _) _ _
/-- What a grammar as an argument has. -/
theorem GramC.parts {w : World} {B : Nat} {v : Value} {G : Rd.G} (h : GramC w B v G) : ∃ A1 c1 A2 c2 A3 c3 A4 c4 ql, v = .agg #[.slice A1 G.toks.length c1, .slice A2 G.skips.length c2, .slice A3 G.levels.length c3, .string (str G.start), .slice A4 G.rules.length c4] ∧
    Cl w B A1 (toksV G.toks) ∧ LevsC w B A3 G.levels ∧ Cl w B A4 (rulesV ql) ∧ ql.map (·.1) = G.rules ∧ ∀ p ∈ ql, NmC w B p.2 p.1.right := by
  obtain ⟨A1, c1, A2, c2, A3, c3, A4, c4, pl, ql, h0, h1, h2, h3, h4, h5, h6, h7, h8⟩ := h.ex
  exact ⟨A1, c1, A2, c2, A3, c3, A4, c4, ql, h0, h1, ⟨pl, h3, h4, fun p hp => (h5 p hp).2⟩, h6, h7, h8⟩
/-- The rules of a grammar lie at A. -/
structure RulsC (w : World) (B : Nat) (A : Option Addr) (L : List Rd.Rule) : Prop where
  ex : ∃ ql, Cl w B A (rulesV ql) ∧ ql.map (·.1) = L ∧ ∀ p ∈ ql, NmC w B p.2 p.1.right
theorem RulsC.below {w w' : World} {B : Nat} {A : Option Addr} {L : List Rd.Rule} (h : RulsC w B A L) (hb : Below B w w') : RulsC w' B A L := by
  obtain ⟨pl, h1, h2, h3⟩ := h.ex
  exact ⟨pl, h1.below hb, h2, fun p hp => (h3 p hp).below hb⟩
/-- What there is of rule number k. -/
theorem RulsC.get {w : World} {B : Nat} {A : Option Addr} {L : List Rd.Rule} (h : RulsC w B A L) {k : Nat} {x : Rd.Rule} (hk : L[k]? = some x) :
    ∃ b o A' c', A = some ⟨b, o, none⟩ ∧ b < B ∧ w.cell? ⟨b, o + k * 4, none⟩ = some (.string (str x.left)) ∧ w.cell? ⟨b, o + k * 4 + 1, none⟩ = some (.slice A' x.right.length c') ∧ w.cell? ⟨b, o + k * 4 + 2, none⟩ = some (.string (str x.prec)) ∧ w.cell? ⟨b, o + k * 4 + 3, none⟩ = some (.string (str x.action)) ∧ Cl w B A' (namesV x.right) := by
  obtain ⟨pl, h1, h2, h3⟩ := h.ex
  have hk2 := hk
  rw [← h2, List.getElem?_map, Option.map_eq_some_iff] at hk2
  obtain ⟨p, hp, rfl⟩ := hk2
  obtain ⟨A', c', e, hc⟩ := h3 p (List.mem_of_getElem? hp)
  have hv := fun j u (hj : j < 4) (hu : (ruleCells p)[j]? = some u) => flat_get ruleCells 4 (fun _ => rfl) pl k j p u hp hj hu
  obtain ⟨b, o, rfl, hb, hcell⟩ := h1.ex (fun e => by
    have h : (rulesV pl)[k * 4 + 0]? = some (.string (str p.1.left)) := hv 0 _ (by omega) rfl
    rw [e] at h; simp at h)
  refine ⟨b, o, A', c', rfl, hb, hcell _ _ (hv 0 _ (by omega) rfl), ?_, ?_, ?_, hc⟩
  · rw [Nat.add_assoc, ← e]
    exact hcell _ _ (hv 1 _ (by omega) rfl)
  · rw [Nat.add_assoc]
    exact hcell _ _ (hv 2 _ (by omega) rfl)
  · rw [Nat.add_assoc]
    exact hcell _ _ (hv 3 _ (by omega) rfl)
theorem tok_get {w : World} {B : Nat} {A : Option Addr} {L : List Rd.Tok} (h : Cl w B A (toksV L)) {k : Nat} {x : Rd.Tok} (hk : L[k]? = some x) :
    ∃ b o, A = some ⟨b, o, none⟩ ∧ b < B ∧ w.cell? ⟨b, o + k * 4, none⟩ = some (.string (str x.name)) ∧ w.cell? ⟨b, o + k * 4 + 1, none⟩ = some (.string (str x.pat.text)) ∧ w.cell? ⟨b, o + k * 4 + 2, none⟩ = some (.string (str x.pat.set)) ∧ w.cell? ⟨b, o + k * 4 + 3, none⟩ = some (.bool x.pat.many) := by
  have hv := fun j u (hj : j < 4) (hu : x.cells[j]? = some u) => flat_get Rd.Tok.cells 4 (fun _ => rfl) L k j x u hk hj hu
  obtain ⟨b, o, rfl, hb, hcell⟩ := h.ex (fun e => by
    have h : (toksV L)[k * 4 + 0]? = some (.string (str x.name)) := hv 0 _ (by omega) rfl
    rw [e] at h; simp at h)
  exact ⟨b, o, rfl, hb, hcell _ _ (hv 0 _ (by omega) rfl), by rw [Nat.add_assoc]; exact hcell _ _ (hv 1 _ (by omega) rfl), by rw [Nat.add_assoc]; exact hcell _ _ (hv 2 _ (by omega) rfl), by rw [Nat.add_assoc]; exact hcell _ _ (hv 3 _ (by omega) rfl)⟩

set_option maxHeartbeats 8000000 in
theorem symbols_any (v : Value) (G : Rd.G) (B : Nat) (w : World) (h : GramC w B v G) (hB : B ≤ w.heap.size) (hn1 : G.toks.length ≤ 1000) (hn4 : G.rules.length ≤ 1000) :
    Calls Tryz.prog 49 #[v] w fun e w' => (∃ A1 c1 A2 c2, e = .returned (.agg #[.slice A1 (Nm.terms G).length c1, .slice A2 (Nm.vars G).length c2, .slice none 0 0, .slice none 0 0, .slice none 0 0, .slice none 0 0]) ∧ Lie w' 9 A1 (namesV (Nm.terms G)) ∧ Lie w' 9 A2 (namesV (Nm.vars G))) ∧ Below w.heap.size w w' := by
  obtain ⟨A1, c1, A2, c2, A3, c3, A4, c4, ql, rfl, k1, k3, k4, k5, k6⟩ := h.parts
  have hru : RulsC w B A4 G.rules := ⟨ql, k4, k5, k6⟩
  obtain ⟨i0, hi, hz0, hz1, hz2⟩ := info_parts strinfo
  obtain ⟨n1, hn1'⟩ : ∃ n, G.toks.length = n := ⟨_, rfl⟩
  obtain ⟨n2, hn2'⟩ : ∃ n, G.skips.length = n := ⟨_, rfl⟩
  obtain ⟨n3, hn3'⟩ : ∃ n, G.levels.length = n := ⟨_, rfl⟩
  obtain ⟨n4, hn4'⟩ : ∃ n, G.rules.length = n := ⟨_, rfl⟩
  rw [hn1'] at hn1 ⊢
  rw [hn4'] at hn4 ⊢
  rw [hn2', hn3']
  generalize str G.start = ST
  have HN1 := Lib.hid hn1'
  have HN4 := Lib.hid hn4'
  have hgg := At.new w 27 #[.slice A1 n1 c1, .slice A2 n2 c2, .slice A3 n3 c3, .string ST, .slice A4 n4 c4]
  obtain ⟨w1, hw1⟩ : ∃ w1, w.alloc (.cells #[.slice A1 n1 c1, .slice A2 n2 c2, .slice A3 n3 c3, .string ST, .slice A4 n4 c4] 27) = w1 := ⟨_, rfl⟩
  have hs1 : w1.heap.size = w.heap.size + 1 := by rw [← hw1]; simp
  have b1 := (Below.refl w.heap.size w).alloc (Nat.le_refl _) (.cells #[.slice A1 n1 c1, .slice A2 n2 c2, .slice A3 n3 c3, .string ST, .slice A4 n4 c4] 27)
  rw [hw1] at hgg b1
  have hgr := At.new w1 45 #[.slice none 0 0, .slice none 0 0, .slice none 0 0, .slice none 0 0, .slice none 0 0, .slice none 0 0]
  obtain ⟨w2, hw2⟩ : ∃ w2, w1.alloc (.cells #[.slice none 0 0, .slice none 0 0, .slice none 0 0, .slice none 0 0, .slice none 0 0, .slice none 0 0] 45) = w2 := ⟨_, rfl⟩
  have hs2 : w2.heap.size = w.heap.size + 1 + 1 := by rw [← hw2]; simp [hs1]
  have b2 := b1.alloc b1.size (.cells #[.slice none 0 0, .slice none 0 0, .slice none 0 0, .slice none 0 0, .slice none 0 0, .slice none 0 0] 45)
  have hgg2 := hgg.alloc (.cells #[.slice none 0 0, .slice none 0 0, .slice none 0 0, .slice none 0 0, .slice none 0 0, .slice none 0 0] 45)
  rw [hw2] at hgr b2 hgg2
  have hrow := own_built w2 [.string ⟨#[36, 101, 110, 100]⟩] 9 (by decide)
  obtain ⟨w3, hw3⟩ : ∃ w3, w2.alloc (.cells #[.string ⟨#[36, 101, 110, 100]⟩] 9) = w3 := ⟨_, rfl⟩
  have hs3 : w3.heap.size = w.heap.size + 1 + 1 + 1 := by rw [← hw3]; simp [hs2]
  have b3 := b2.alloc b2.size (.cells #[.string ⟨#[36, 101, 110, 100]⟩] 9)
  have hgg3 := hgg2.alloc (.cells #[.string ⟨#[36, 101, 110, 100]⟩] 9)
  have hgr3 := hgr.alloc (.cells #[.string ⟨#[36, 101, 110, 100]⟩] 9)
  rw [show (.cells [Value.string ⟨#[36, 101, 110, 100]⟩].toArray 9 : Obj) = .cells #[.string ⟨#[36, 101, 110, 100]⟩] 9 from rfl, hw3] at hrow
  rw [hw3] at b3 hgg3 hgr3
  rw [hs2] at hrow
  have hgp := At.new w3 45 #[.slice (some ⟨w.heap.size + 1 + 1, 0, none⟩) 1 1, .slice none 0 0, .slice none 0 0, .slice none 0 0, .slice none 0 0, .slice none 0 0]
  obtain ⟨W0, hW0⟩ : ∃ W0, w3.alloc (.cells #[.slice (some ⟨w.heap.size + 1 + 1, 0, none⟩) 1 1, .slice none 0 0, .slice none 0 0, .slice none 0 0, .slice none 0 0, .slice none 0 0] 45) = W0 := ⟨_, rfl⟩
  have hs4 : W0.heap.size = w.heap.size + 1 + 1 + 1 + 1 := by rw [← hW0]; simp [hs3]
  have b4 := b3.alloc b3.size (.cells #[.slice (some ⟨w.heap.size + 1 + 1, 0, none⟩) 1 1, .slice none 0 0, .slice none 0 0, .slice none 0 0, .slice none 0 0, .slice none 0 0] 45)
  have hgg4 := hgg3.alloc (.cells #[.slice (some ⟨w.heap.size + 1 + 1, 0, none⟩) 1 1, .slice none 0 0, .slice none 0 0, .slice none 0 0, .slice none 0 0, .slice none 0 0] 45)
  have hgr4 := hgr3.alloc (.cells #[.slice (some ⟨w.heap.size + 1 + 1, 0, none⟩) 1 1, .slice none 0 0, .slice none 0 0, .slice none 0 0, .slice none 0 0, .slice none 0 0] 45)
  have hrow4 := hrow.alloc (.cells #[.slice (some ⟨w.heap.size + 1 + 1, 0, none⟩) 1 1, .slice none 0 0, .slice none 0 0, .slice none 0 0, .slice none 0 0, .slice none 0 0] 45)
  rw [hW0] at b4 hgg4 hgr4 hrow4 hgp
  have HWW := Lib.hid (show (((w.alloc (.cells #[.slice A1 n1 c1, .slice A2 n2 c2, .slice A3 n3 c3, .string ST, .slice A4 n4 c4] 27)).alloc (.cells #[.slice none 0 0, .slice none 0 0, .slice none 0 0, .slice none 0 0, .slice none 0 0, .slice none 0 0] 45)).alloc (.cells #[.string ⟨#[36, 101, 110, 100]⟩] 9)).alloc (.cells #[.slice (some ⟨w.heap.size + 1 + 1, 0, none⟩) 1 1, .slice none 0 0, .slice none 0 0, .slice none 0 0, .slice none 0 0, .slice none 0 0] 45) = W0 by rw [hw1, hw2, hw3, hW0])
  obtain ⟨g0, hg0⟩ : ∃ g, w.heap.size = g := ⟨_, rfl⟩
  obtain ⟨g1, hg1⟩ : ∃ g, g0 + 1 = g := ⟨_, rfl⟩
  obtain ⟨g2, hg2⟩ : ∃ g, g1 + 1 = g := ⟨_, rfl⟩
  obtain ⟨g3, hg3⟩ : ∃ g, g2 + 1 = g := ⟨_, rfl⟩
  rw [hs1] at hgr4
  rw [hs3] at hgp
  rw [hg0] at hgg4 hgr4 hrow4 hgp hs4
  rw [hg1] at hgr4 hrow4 hgp hs4
  rw [hg2] at hrow4 hgp hs4
  rw [hg3] at hgp hs4
  have HGG := Lib.hid hgg4
  have HGR := Lib.hid hgr4
  have HGP := Lib.hid hgp
  have HRW := Lib.hid hrow4
  have HB0 := Lib.hid b4
  have HK := Lib.hid k1
  have HR := Lib.hid hru
  have HG := Lib.hid (show w.heap.size = g0 ∧ g0 + 1 = g1 ∧ g1 + 1 = g2 ∧ g2 + 1 = g3 ∧ W0.heap.size = g3 + 1 from ⟨hg0, hg1, hg2, hg3, hs4⟩)
  have HTM := Lib.hid (show ∀ k x, G.toks[k]? = some x → namesV ((Nm.terms G).take (k + 1 + 1)) = namesV ((Nm.terms G).take (k + 1)) ++ [.string (str x.name)] from fun k x hx => by
    rw [List.take_add_one (i := k + 1)]
    have : (Nm.terms G)[k + 1]? = some x.name := by unfold Nm.terms; simp [hx]
    rw [this]; simp [namesV])
  have HTL := Lib.hid (show (Nm.terms G).length = n1 + 1 by unfold Nm.terms; simp [hn1'])
  clear h k1 k3 k4 k5 k6 hru hn1' hn2' hn3' hn4' hgg hgg2 hgg3 hgg4 hgr hgr3 hgr4 hrow hrow4 hgp b1 b2 b3 b4 hw1 hw2 hw3 hW0 hs1 hs2 hs3 hs4 hg0 hg1 hg2 hg3
  go_enter Tryz.func49, Tryz.ntmps49
  go_wp2_with fail
  rw [HWW.out]
  obtain ⟨hg0, hg1, hg2, hg3, _⟩ := HG.out
  rw [hg0, hg1, hg2, hg3]
  clear hg0 hg1 hg2 hg3
  go_loopw [13] (fun i wr => ∃ (k : Nat) (a : Option Addr) (s : Nat), k ≤ n1 ∧ i = .int .i64 (k : Int) ∧ At wr g3 45 #[.slice a (k + 1) s, .slice none 0 0, .slice none 0 0, .slice none 0 0, .slice none 0 0, .slice none 0 0] ∧ wr.ownsRow g2 9 1 (.slice a (k + 1) s) (k + 1) (namesV ((Nm.terms G).take (k + 1))) ∧ Keeps [g2, g3] W0 wr) (fun i _ => n1 - (intOf i).toNat)
  case atStart => exact ⟨0, _, _, by omega, rfl, HGP.out, HRW.out, Keeps.refl _ _⟩
  case round =>
    obtain ⟨k, a, s, hk, rfl, hat, hown, hkp⟩ := hrel
    have HAT := Lib.hid hat
    have HO := Lib.hid hown
    have HKP := Lib.hid hkp
    have HBW := Lib.hid (below_keeps HB0.out hkp (by have := HG.out; simp; omega) (by have := HG.out; omega))
    have hsz : W0.heap.size ≤ wr.heap.size := hkp.size
    have HSZ := Lib.hid hsz
    have hlt3 := hat.lt
    have p0 := hat.cell 0
    simp only [List.getElem?_toArray, List.getElem?_cons_zero] at p0
    clear hat hown hkp hsz
    by_cases hlt : k < n1
    · obtain ⟨x, ht⟩ := some_get (l := G.toks) (i := k) (by rw [HN1.out]; exact hlt)
      obtain ⟨b, o, hA, hbl, y0, y1, y2, y3⟩ := tok_get (HK.out.below (HBW.out.mono hB)) ht
      subst hA
      have HTK := Lib.hid (HTM.out k x ht)
      generalize str x.pat.text = X1 at y1
      generalize str x.pat.set = X2 at y2
      generalize x.pat.many = X3 at y3
      obtain ⟨X0, hX0⟩ : ∃ X0, str x.name = X0 := ⟨_, rfl⟩
      rw [hX0] at y0 HTK
      have hki : (k : Int) < (n1 : Int) := by omega
      have hk0 : (0 : Int) ≤ (k : Int) := by omega
      have hc3 : k + 1 + 1 ≤ maxLen := by unfold maxLen; omega
      have hc4 : (k + 1 + 1) * 16 ≤ 140737488355328 := by omega
      have hg2w : g2 ≤ wr.heap.size := by have := HG.out; have := HSZ.out; omega
      clear ht hX0
      go_wp2_with (at_builtin; refine wpList_append_own2 _ rfl _ _ 34 rfl g2 9 i0 _ 1 16 Tryz.underlying34 hi hz0 hz1 hz2 rfl (by decide) _ _ _ rfl ((HO.out.alloc (.cells #[.string X0, .string X1, .string X2, .bool X3] 41)).alloc _) _ 1 1 [.string X0] rfl rfl (cells_new2 _ _ _ _) (by simp [Value.oneCell']) hc3 hc4 (by simp; omega) ?_)
      intro v' w5 hown' hg _
      obtain ⟨a7, s7, rfl⟩ := own_form hown'
      have hat5 := ((HAT.out.alloc (.cells #[.string X0, .string X1, .string X2, .bool X3] 41)).alloc (.cells #[.string X0] 9)).grown hg (fun e => own_apart HO.out HAT.out (by decide) e.symm)
      have HAT5 := Lib.hid hat5
      have q0 := hat5.cell 0
      have qf := hat5.frozen 0
      simp only [List.getElem?_toArray, List.getElem?_cons_zero] at q0
      have HN5 := Lib.hid (show w5.ownsRow g2 9 1 (.slice a7 (k + 1 + 1) s7) (k + 1 + 1) (namesV ((Nm.terms G).take (k + 1 + 1))) by rw [HTK.out]; exact hown')
      have HK5 := Lib.hid (((HKP.out.alloc (.cells #[.string X0, .string X1, .string X2, .bool X3] 41)).alloc (.cells #[.string X0] 9)).grown hg (fun j hj => by
        have h1 := (own_lt HO.out j hj).1
        have h2 : j ≠ g3 := fun e => own_apart HO.out HAT.out (by decide) (e ▸ hj)
        have := HG.out
        simp; omega))
      clear hown' hg hat5 p0
      go_wp2_with fail
      go_roundw
      case rel =>
        refine ⟨k + 1, a7, s7, by omega, by go_num, ?_, ?_, ?_⟩
        · have := HAT5.out.set 0 (.slice a7 (k + 1 + 1) s7)
          simpa using this
        · exact own_stay HN5.out (Stay.far HAT5.out (by decide) (grown_set (grown_refl _ _) 0 _))
        · exact HK5.out.set (p := ⟨g3, 0, none⟩) (.inl (by simp)) _
      case measure => simp [intOf]; omega
    · obtain rfl : n1 = k := by omega
      have hall : (Nm.terms G).take (n1 + 1) = Nm.terms G := by rw [← HTL.out, List.take_length]
      rw [hall] at HO
      have hgg1 := HGG.out.keeps HKP.out (by have := HG.out; simp; omega)
      have hgr1 := HGR.out.keeps HKP.out (by have := HG.out; simp; omega)
      have x4 := hgg1.cell 4
      simp only [List.getElem?_toArray, List.getElem?_cons_zero, List.getElem?_cons_succ] at x4
      have HGG1 := Lib.hid hgg1
      have HGR1 := Lib.hid hgr1
      have hlg0 := hgg1.lt
      clear hgg1 hgr1 hall
      go_wp2_with fail
      obtain ⟨W1, hW1⟩ : ∃ W1, wr = W1 := ⟨_, rfl⟩
      rw [hW1] at HAT HO HKP HBW HSZ HGG1 HGR1 ⊢
      have HLF := Lib.hid (show ∀ q y, G.rules[q]? = some y → Nm.varsOf ((G.rules.map Rd.Rule.left).take (q + 1)) = Nm.addN (Nm.varsOf ((G.rules.map Rd.Rule.left).take q)) y.left from fun q y hy => by
        rw [List.take_add_one, List.getElem?_map, hy]; exact Nm.varsOf_snoc _ _)
      have hv0 : Nm.varsOf ((G.rules.map Rd.Rule.left).take 0) = [] := rfl
      have HV0 := Lib.hid hv0
      have HLV := Lib.hid (show ∀ q, (Nm.varsOf ((G.rules.map Rd.Rule.left).take q)).length ≤ q from fun q => by
        have h1 := Nm.varsOf_len ((G.rules.map Rd.Rule.left).take q)
        have h2 : ((G.rules.map Rd.Rule.left).take q).length ≤ q := by rw [List.length_take]; omega
        omega)
      clear p0 x4 hlt3 hlg0 hW1 hv0
      go_loopw [28] (fun i wr => ∃ (q m : Nat) (a' : Option Addr) (s' : Nat) (VV : List Rd.Name), q ≤ n4 ∧ i = .int .i64 (q : Int) ∧ Nm.varsOf ((G.rules.map Rd.Rule.left).take q) = VV ∧ VV.length = m ∧ At wr g3 45 #[.slice a (n1 + 1) s, .slice a' m s', .slice none 0 0, .slice none 0 0, .slice none 0 0, .slice none 0 0] ∧ wr.ownsRow W1.heap.size 9 1 (.slice a' m s') m (namesV VV) ∧ Keeps [g3] W1 wr) (fun i _ => n4 - (intOf i).toNat)
      case atStart => exact ⟨0, 0, none, 0, [], by omega, rfl, HV0.out, rfl, HAT.out, World.ownsRow_nil _ _ _ _, Keeps.refl _ _⟩
      case round =>
        obtain ⟨q, m, a', s', VV, hq, rfl, hVV, hm, hat, hown, hkp⟩ := hrel
        have HVV := Lib.hid hVV
        have HM := Lib.hid hm
        have HAT2 := Lib.hid hat
        have HO2 := Lib.hid hown
        have HKP2 := Lib.hid hkp
        have hlv := HLV.out q
        rw [hVV, hm] at hlv
        have HBW2 := Lib.hid (below_keeps HBW.out hkp (by have := HG.out; simp; omega) HBW.out.size)
        have hsz2 : W1.heap.size ≤ wr.heap.size := hkp.size
        have hlt3 := hat.lt
        have p1 := hat.cell 1
        simp only [List.getElem?_toArray, List.getElem?_cons_zero, List.getElem?_cons_succ] at p1
        by_cases hlt : q < n4
        · obtain ⟨x, ht⟩ := some_get (l := G.rules) (i := q) (by rw [HN4.out]; exact hlt)
          obtain ⟨b, o, A', c', hA, hbl, y0, y1, y2, y3, hcl⟩ := (HR.out.below (HBW2.out.mono hB)).get ht
          subst hA
          have HLF1 := Lib.hid (HLF.out q x ht)
          rw [hVV] at HLF1
          have hFN := findS_any VV x.left a' s' wr.heap.size (wr.alloc (.cells #[.string (str x.left), .slice A' x.right.length c', .string (str x.prec), .string (str x.action)] 36)) ((Lie.own hown).cl.below ((Below.refl _ _).alloc (Nat.le_refl _) _)) (by simp) (by omega)
          rw [hm] at hFN
          have hat3 := hat.alloc (.cells #[.string (str x.left), .slice A' x.right.length c', .string (str x.prec), .string (str x.action)] 36)
          have hatr := At.new wr 36 #[.string (str x.left), .slice A' x.right.length c', .string (str x.prec), .string (str x.action)]
          have hkp3 := hkp.alloc (.cells #[.string (str x.left), .slice A' x.right.length c', .string (str x.prec), .string (str x.action)] 36)
          have hown3 := hown.alloc (.cells #[.string (str x.left), .slice A' x.right.length c', .string (str x.prec), .string (str x.action)] 36)
          generalize x.right.length = XR at y1 hFN hat3 hatr hkp3 hown3
          generalize str x.prec = X2 at y2 hFN hat3 hatr hkp3 hown3
          generalize str x.action = X3 at y3 hFN hat3 hatr hkp3 hown3
          obtain ⟨L, hL⟩ : ∃ L, x.left = L := ⟨_, rfl⟩
          rw [hL] at y0 hFN HLF1 hat3 hatr hkp3 hown3
          obtain ⟨X0, hX0⟩ : ∃ X0, str L = X0 := ⟨_, rfl⟩
          rw [hX0] at y0 hFN hat3 hatr hkp3 hown3
          have HX0 := Lib.hid hX0
          have hki : (q : Int) < (n4 : Int) := by omega
          have hk0 : (0 : Int) ≤ (q : Int) := by omega
          have HFN := Lib.hid hFN
          have HAT3 := Lib.hid hat3
          have HATR := Lib.hid hatr
          have HKP3 := Lib.hid hkp3
          have HO3 := Lib.hid hown3
          by_cases hin : L ∈ VV
          · have hpl : 0 ≤ Nm.place VV L := Nm.place_ge.2 hin
            have HAD := Lib.hid (show Nm.addN VV L = VV by unfold Nm.addN; rw [if_pos hin])
            generalize Nm.place VV L = PL at HFN hpl
            clear hFN hat3 hatr hkp3 hown3 hat hown hkp hcl ht hin hL hX0 hVV hm hsz2
            go_wp2_with fail
            refine HFN.out.mono ?_
            rintro e w5 ⟨rfl, hb5⟩
            have HB5 := Lib.hid hb5
            clear hb5
            go_wp2_with fail
            go_roundw
            case rel =>
              refine ⟨q + 1, m, a', s', VV, by omega, by go_num, by rw [HLF1.out, HAD.out], HM.out, HAT3.out.below HB5.out HAT3.out.lt, own_stay HO3.out (Stay.below HB5.out), HKP3.out.trans' (S' := []) (Keeps.nil_of_below HB5.out) (by simp)⟩
            case measure => simp [intOf]; omega
          · have hpl : ¬ 0 ≤ Nm.place VV L := fun e => hin (Nm.place_ge.1 e)
            have hpl2 : Nm.place VV L < 0 := by omega
            have HAD := Lib.hid (show Nm.addN VV L = VV ++ [L] by unfold Nm.addN; rw [if_neg hin])
            generalize Nm.place VV L = PL at HFN hpl hpl2
            have hgr0 : wr.heap.size < (wr.alloc (.cells #[.string X0, .slice A' XR c', .string X2, .string X3] 36)).heap.size := by simp
            clear hFN hat3 hatr hkp3 hown3 hat hown hkp hcl ht hin hL hX0 hVV hm
            go_wp2_with fail
            refine HFN.out.mono ?_
            rintro e w5 ⟨rfl, hb5⟩
            have hat5 := HAT3.out.below hb5 HAT3.out.lt
            have hatr5 := HATR.out.below hb5 HATR.out.lt
            have q1 := hat5.cell 1
            have r0 := hatr5.cell 0
            simp only [List.getElem?_toArray, List.getElem?_cons_zero, List.getElem?_cons_succ] at q1 r0
            have HAT5 := Lib.hid hat5
            have HO5 := Lib.hid (own_stay HO3.out (Stay.below hb5))
            have HK5 := Lib.hid (HKP3.out.trans' (S' := []) (Keeps.nil_of_below hb5) (by simp))
            have hsz5 := HK5.out.size
            have hc3 : m + 1 ≤ maxLen := by unfold maxLen; omega
            have hc4 : (m + 1) * 16 ≤ 140737488355328 := by omega
            have hl5 := hat5.lt
            have hlr5 := hatr5.lt
            clear hb5 hat5 hatr5 p1 hgr0
            go_wp2_with (at_builtin; refine wpList_append_own2 _ rfl _ _ 34 rfl W1.heap.size 9 i0 _ 1 16 Tryz.underlying34 hi hz0 hz1 hz2 rfl (by decide) _ _ _ rfl (HO5.out.alloc _) ⟨w5.heap.size, 0, none⟩ 1 1 [.string X0] rfl rfl (cells_new _ _ _) (by simp [Value.oneCell']) hc3 hc4 (by simp; omega) ?_)
            intro v' w6 hown' hg _
            obtain ⟨a8, s8, rfl⟩ := own_form hown'
            have hat6 := (HAT5.out.alloc (.cells #[.string X0] 9)).grown hg (fun e => own_apart HO5.out HAT5.out (by decide) e.symm)
            have HAT6 := Lib.hid hat6
            have u1 := hat6.cell 1
            have uf := hat6.frozen 1
            simp only [List.getElem?_toArray, List.getElem?_cons_zero, List.getElem?_cons_succ] at u1
            have HN6 := Lib.hid (show w6.ownsRow W1.heap.size 9 1 (.slice a8 (m + 1) s8) (m + 1) (namesV (VV ++ [L])) by
              rw [namesV_append, show namesV [L] = [.string X0] by unfold namesV; rw [← HX0.out]; rfl]; exact hown')
            have HK6 := Lib.hid ((HK5.out.alloc (.cells #[.string X0] 9)).grown hg (fun j hj => .inr (own_lt HO5.out j hj).1))
            clear hown' hg hat6 q1 r0
            go_wp2_with fail
            go_roundw
            case rel =>
              refine ⟨q + 1, m + 1, a8, s8, VV ++ [L], by omega, by go_num, by rw [HLF1.out, HAD.out], by rw [List.length_append, HM.out]; rfl, ?_, ?_, ?_⟩
              · have := HAT6.out.set 1 (.slice a8 (m + 1) s8)
                simpa using this
              · exact own_stay HN6.out (Stay.far HAT6.out (by decide) (grown_set (grown_refl _ _) 1 _))
              · exact HK6.out.set (p := ⟨g3, 1, none⟩) (.inl (by simp)) _
            case measure => simp [intOf]; omega
        · obtain rfl : n4 = q := by omega
          have hvars : VV = Nm.vars G := by
            rw [← hVV]; unfold Nm.vars
            rw [← HN4.out, ← List.length_map (f := Rd.Rule.left), List.take_length]
          have HVG := Lib.hid hvars
          have hgr2 := HGR1.out.keeps hkp (by have := HG.out; simp; omega)
          have HGR2 := Lib.hid hgr2
          have p0 := hat.cell 0
          have p2 := hat.cell 2
          have p3 := hat.cell 3
          have p4 := hat.cell 4
          have p5 := hat.cell 5
          have r0 := hgr2.cell 0
          have r1 := hgr2.cell 1
          have r2 := hgr2.cell 2
          have r3 := hgr2.cell 3
          have r4 := hgr2.cell 4
          have r5 := hgr2.cell 5
          have rf := hgr2.frozen
          simp only [List.getElem?_toArray, List.getElem?_cons_zero, List.getElem?_cons_succ] at p0 p2 p3 p4 p5 r0 r1 r2 r3 r4 r5
          have hlr := hgr2.lt
          have HTR := Lib.hid ((Lie.own (own_keeps HO.out hkp (fun k hk hm => own_apart HO.out HAT.out (by decide) (by simp at hm; rw [hm] at hk; exact hk)))))
          have HVR := Lib.hid (Lie.own hown)
          clear hat hown hkp hgr2 hvars hVV hm
          go_wp2_with fail
          refine bodyPost_ret (results_cell_row rfl _ _ g1 _ _ (0, 0) _ rfl (HGR2.out.six _ _ _ _ _ _) Tryz.underlying45 rfl Tryz.sizePlan) rfl ⟨⟨a, s, a', s', ?_, ?_, ?_⟩, ?_⟩
          · rw [HTL.out, ← HVG.out, HM.out]
          · exact HTR.out.stay (Stay.far HGR2.out (by decide) (grown_six _ _ _ _ _ _ _ _))
          · rw [← HVG.out]
            exact HVR.out.stay (Stay.far HGR2.out (by decide) (grown_six _ _ _ _ _ _ _ _))
          · exact below_grown HBW2.out (grown_six _ _ _ _ _ _ _ _) HBW2.out.size (by have := HG.out; omega)

end Go.Proofs.YtpgmapjjjpcmfaaGreatDoor
