import Derived.Test.YtpgmapjjjpcmfaaGreatDoorPrAA
import Derived.Test.YtpgmapjjjpcmfaaGreatDoorPrZX
namespace Go.Proofs.YtpgmapjjjpcmfaaGreatDoor
namespace Pr
open Rd (Name Pat Tok Lev Rule G)
set_option linter.unusedVariables false
set_option linter.unusedSimpArgs false
theorem pattern_len {p : Pat} (h : patOk p = true) : (pattern p).length ≤ 515 := by
 unfold patOk at h
 unfold pattern
 by_cases h0 : p.text = []
 ·rw [if_pos h0] at h ⊢
  simp only [Bool.and_eq_true] at h
  have h1 := rises_len h.2
  have h2 := esc_len inSet p.set
  simp only [List.length_cons, List.length_append]
  split <;> simp only [List.length_cons, List.length_nil] <;> omega
 ·rw [if_neg h0] at h ⊢
  simp only [Bool.and_eq_true, decide_eq_true_eq] at h
  have h2 := esc_len inText p.text
  simp only [List.length_cons, List.length_append, List.length_nil]
  omega
theorem tokT_len {t : Tok} (h : tokOk t = true) : (tokT t).length ≤ 556 := by
 unfold tokOk at h
 rw [Bool.and_eq_true] at h
 have h1 := name_len h.1
 have h2 := pattern_len h.2
 unfold tokT
 simp only [List.length_cons, List.length_append, List.length_nil]
 omega
theorem skipT_len {p : Pat} (h : patOk p = true) : (skipT p).length ≤ 522 := by
 have h2 := pattern_len h
 unfold skipT
 simp only [List.length_cons, List.length_append, List.length_nil]
 omega
theorem rowT_len {l : List Name} (h : ∀ n ∈ l, nameOk n = true) : (rowT l).length ≤ 33 * l.length := by
 induction l with
 | nil => simp [rowT]
 | cons n r ih =>
  have h1 := name_len (h n (by simp))
  have h2 := ih (fun x hx => h x (by simp [hx]))
  unfold rowT at h2 ⊢
  rw [List.flatMap_cons, List.length_append]
  simp only [List.length_cons]
  omega
theorem levW_len (a : Nat) : (levW a).length ≤ 8 := by
 unfold levW; split
 ·decide
 ·split <;> decide
theorem levT_len {v : Lev} (h : levOk v = true) : (levT v).length ≤ 10 + 33 * v.names.length := by
 unfold levOk at h
 simp only [Bool.and_eq_true, List.all_eq_true] at h
 have h1 := rowT_len h.2.2
 have h2 := levW_len v.assoc
 unfold levT
 simp only [List.length_cons, List.length_append, List.length_nil]
 omega
theorem ruleT_len {r : Rule} (h : ruleOk r = true) : (ruleT r).length ≤ 600 := by
 unfold ruleOk at h
 simp only [Bool.and_eq_true, Bool.or_eq_true, decide_eq_true_eq, beq_iff_eq, List.all_eq_true] at h
 obtain ⟨h1, h2, h3, h4, h5⟩ := h
 have k1 := name_len h1
 have k3 := rowT_len h3
 have k5 := action_len h5
 have k4 : (precT r.prec).length ≤ 39 := by
  unfold precT
  split
  ·simp
  ·rename_i h0
   have := name_len (h4.resolve_left h0)
   simp only [List.length_cons, List.length_append, List.length_nil]; omega
 have k6 : (actT r.action).length ≤ 203 := by
  unfold actT
  split
  ·simp
  ·simp only [List.length_cons, List.length_append, List.length_nil]; omega
 unfold ruleT
 simp only [List.length_cons, List.length_append, List.length_nil]
 omega
theorem flat_len {α : Type} {f : α → List UInt8} {m : Nat} {l : List α} (h : ∀ x ∈ l, (f x).length ≤ m) : (l.flatMap f).length ≤ m * l.length := by
 induction l with
 | nil => simp
 | cons x r ih =>
  have h1 := h x (by simp)
  have h2 := ih (fun y hy => h y (by simp [hy]))
  rw [List.flatMap_cons, List.length_append, List.length_cons, Nat.mul_add]
  omega
theorem levs_len {l : List Lev} (h : ∀ v ∈ l, levOk v = true) : (l.flatMap levT).length ≤ 10 * l.length + 33 * (l.flatMap Lev.names).length := by
 induction l with
 | nil => simp
 | cons x r ih =>
  have h1 := levT_len (h x (by simp))
  have h2 := ih (fun y hy => h y (by simp [hy]))
  rw [List.flatMap_cons, List.flatMap_cons, List.length_append, List.length_append, List.length_cons]
  omega
theorem text_len {g : G} (h : Right g) (hN : (lvl g).length ≤ 10000) : (text g).length ≤ 900000 := by
 have h1 := flat_len (f := tokT) (fun x hx => tokT_len (h.toks x hx))
 have h2 := flat_len (f := skipT) (fun x hx => skipT_len (h.skips x hx))
 have h3 := levs_len h.levels
 have h4 := flat_len (f := fun r => ruleT r ++ [10]) (m := 601) (l := g.rules) (fun x hx => by
  have := ruleT_len (h.each x hx)
  simp only [List.length_append, List.length_cons, List.length_nil]; omega)
 have h5 := name_len h.start
 have n1 := h.ntok
 have n2 := h.nskip
 have n3 := h.nlev
 have n4 := h.nrule
 unfold lvl at hN
 unfold text midT rulesT
 simp only [List.length_append, List.length_cons, List.length_nil]
 omega
theorem flat_take_succ {α : Type} (f : α → List UInt8) {l : List α} {k : Nat} {x : α} (h : l[k]? = some x) : (l.take (k + 1)).flatMap f = (l.take k).flatMap f ++ f x := by
 rw [List.take_add_one, h]; simp
theorem flat_take_le {α : Type} (f : α → List UInt8) (l : List α) (k : Nat) : ((l.take k).flatMap f).length ≤ (l.flatMap f).length := by
 have e : l = l.take k ++ l.drop k := (List.take_append_drop k l).symm
 conv => rhs; rw [e]
 rw [List.flatMap_append, List.length_append]
 omega
end Pr
end Go.Proofs.YtpgmapjjjpcmfaaGreatDoor
namespace Go.Proofs.YtpgmapjjjpcmfaaGreatDoor
open Go.RowKit
open Lx
attribute [local go_sem ↓] Go.wp_at_zero Go.wp_at_succ
set_option linter.unusedVariables false
set_option linter.unusedSimpArgs false
set_option maxRecDepth 100000
theorem stay_of {t : TypeId} {w w' : World} (h : Below w.heap.size w w') : Stay t w w' := Stay.below h
theorem jn_tok (t : Rd.Tok) : jn [[37, 116, 111, 107, 101, 110], t.name, Pr.pattern t.pat] ++ [10] = Pr.tokT t := by simp [jn, Pr.rowT, Pr.tokT]
theorem jn_skip (p : Rd.Pat) : jn [[37, 115, 107, 105, 112], Pr.pattern p] ++ [10] = Pr.skipT p := by simp [jn, Pr.rowT, Pr.skipT]
theorem jn_lev (v : Rd.Lev) : jn ((37 :: Pr.levW v.assoc) :: v.names) ++ [10] = Pr.levT v := by simp [jn, Pr.levT]
theorem line_built (b : Nat) (L : List UInt8) (Ps : List Rd.Name) (w : World) (h : Bld w b b L) (hl : L.length + (jn Ps ++ [10]).length ≤ 900000) (hx : ∀ x ∈ Ps, x.length ≤ 1000000) (hn : Ps.length ≤ 1000000) :
  Calls Tryz.prog 19 #[.pointer (some ⟨b, 0, none⟩), .slice (some ⟨w.heap.size, 0, none⟩) Ps.length Ps.length] (w.alloc (.cells (namesV Ps).toArray 9)) fun e w' => e = .returned (.tuple #[]) ∧ Bld w' b b (L ++ (jn Ps ++ [10])) ∧ Below b w w' ∧ (∀ t, t ≠ 56 → t ≠ 5 → Stay t w w') := by
 have hlt := h.lt
 have ha : Below w.heap.size w (w.alloc (.cells (namesV Ps).toArray 9)) := (Below.refl _ _).alloc (Nat.le_refl _) _
 have hown := own_built w (namesV Ps) 9 (by rw [namesV_len]; unfold maxLen; omega)
 refine (pline_any b b L Ps _ Ps.length _ (h.below ha) (Lie.own hown) (by simp only [List.length_append, List.length_cons, List.length_nil] at hl; omega) hx hn (by have := ha.size; omega)).mono ?_
 rintro e w' ⟨h1, h2, h3, h4⟩
 exact ⟨h1, h2, (ha.mono (by omega)).trans h3, fun t q1 q2 => (Stay.below ha).trans (h4 t q1 q2)⟩
theorem line_owned (b : Nat) (L : List UInt8) (Ps : List Rd.Name) (B0 : Nat) (A : Option Addr) (cap : Nat) (w : World) (h : Bld w b b L) (ho : w.ownsRow B0 9 1 (.slice A Ps.length cap) Ps.length (namesV Ps)) (hl : L.length + (jn Ps ++ [10]).length ≤ 900000) (hx : ∀ x ∈ Ps, x.length ≤ 1000000) (hn : Ps.length ≤ 1000000) :
  Calls Tryz.prog 19 #[.pointer (some ⟨b, 0, none⟩), .slice A Ps.length cap] w fun e w' => e = .returned (.tuple #[]) ∧ Bld w' b b (L ++ (jn Ps ++ [10])) ∧ Below b w w' ∧ (∀ t, t ≠ 56 → t ≠ 5 → Stay t w w') :=
 pline_any b b L Ps A cap w h (Lie.own ho) (by simp only [List.length_append, List.length_cons, List.length_nil] at hl; omega) hx hn (by have := h.lt; omega)
set_option maxHeartbeats 8000000 in
theorem print_any (v : Value) (G : Rd.G) (B : Nat) (w : World) (h : GramC w B v G) (hB : B ≤ w.heap.size) (hs : Sz G) (hT : Tab w) (h0 : 1 < B) (hN : Pr.rightC G = true → (Pr.lvl G).length ≤ 10000) :
    Calls Tryz.prog 7 #[v] w fun e w' => e = .returned (printV G) ∧ Below w.heap.size w w' := by
  have hright : ∀ w', Below w.heap.size w w' → Calls Tryz.prog 9 #[v] w' fun e w'' => e = .returned (.bool (Pr.rightB G)) ∧ Below w'.heap.size w' w'' := fun w' hw' =>
    pright_any v G B w' (h.below (hw'.mono hB)) (Nat.le_trans hB hw'.size) hs (hT.below (hw'.mono hB) h0) h0 (fun hc => by have := hN hc; omega)
  obtain ⟨A1, c1, A2, c2, A3, c3, A4, c4, pl, ql, rfl, k1, k2, k3, k4, k5, k6, k7, k8⟩ := h.ex
  have HR := Lib.hid hright
  have hb0 := (Below.refl w.heap.size w).alloc (Nat.le_refl _) (.cells #[.slice A1 G.toks.length c1, .slice A2 G.skips.length c2, .slice A3 G.levels.length c3, .string (str G.start), .slice A4 G.rules.length c4] 27)
  have hat0 := At.new w 27 #[.slice A1 G.toks.length c1, .slice A2 G.skips.length c2, .slice A3 G.levels.length c3, .string (str G.start), .slice A4 G.rules.length c4]
  unfold printV
  cases hq : Pr.rightB G with
  | false =>
    rw [hq] at HR
    rw [if_neg (by decide)]
    have HB0 := Lib.hid hb0
    clear hright h hB hs hT h0 hN k1 k2 k3 k4 k5 k6 k7 k8 hat0 hb0 hq
    generalize str G.start = T at HR HB0 ⊢
    go_enter Tryz.func7, Tryz.ntmps7
    go_wp2_with fail
    refine (HR.out _ HB0.out).mono ?_
    rintro e w1 ⟨rfl, hb1⟩
    go_wp2_with fail
    go_ret2
    exact ⟨rfl, HB0.out.trans (hb1.mono HB0.out.size)⟩
  | true =>
    rw [hq] at HR
    rw [if_pos rfl]
    obtain ⟨PV, hPV⟩ : ∃ PV, (if 4000 < (Pr.text G).length then (Value.tuple #[.string (str []), .int .i64 12]) else .tuple #[.string (str (Pr.text G)), .int .i64 0]) = PV := ⟨_, rfl⟩
    rw [hPV]
    have HPV := Lib.hid hPV
    clear hPV
    have HRI := Lib.hid ((Pr.rightB_iff G).1 hq)
    have hrc : Pr.rightC G = true := by unfold Pr.rightB at hq; rw [Bool.and_eq_true] at hq; exact hq.1
    have HTL := Lib.hid (Pr.text_len HRI.out (hN hrc))
    have hplen : pl.length = G.levels.length := by rw [← k4, List.length_map]
    have hqlen : ql.length = G.rules.length := by rw [← k7, List.length_map]
    have hn1 := HRI.out.ntok
    have hn2 := HRI.out.nskip
    have hn3 := HRI.out.nlev
    have hn4 := HRI.out.nrule
    have htx : Pr.text G = G.toks.flatMap Pr.tokT ++ (G.skips.flatMap Pr.skipT ++ (G.levels.flatMap Pr.levT ++ (Pr.midT G.start ++ Pr.rulesT G.rules))) := rfl
    have HTX := Lib.hid htx
    have HK1 := Lib.hid k1
    have HK2 := Lib.hid k2
    have HK3 := Lib.hid k3
    have HK5 := Lib.hid k5
    have HK6 := Lib.hid k6
    have HK8 := Lib.hid k8
    have HK4 := Lib.hid k4
    have HK7 := Lib.hid k7
    have HB0 := Lib.hid hb0
    have HAT0 := Lib.hid hat0
    have HSZ := Lib.hid hs
    have HLV := Lib.hid (hN hrc)
    clear hright h hs hT h0 hN k1 k2 k3 k4 k5 k6 k7 k8 hat0 hb0 hq hrc htx
    obtain ⟨T, hTT⟩ : ∃ T, str G.start = T := ⟨_, rfl⟩
    obtain ⟨n1, e1⟩ : ∃ n, G.toks.length = n := ⟨_, rfl⟩
    obtain ⟨n2, e2⟩ : ∃ n, G.skips.length = n := ⟨_, rfl⟩
    obtain ⟨n3, e3⟩ : ∃ n, G.levels.length = n := ⟨_, rfl⟩
    obtain ⟨n4, e4⟩ : ∃ n, G.rules.length = n := ⟨_, rfl⟩
    rw [hTT, e1, e2, e3, e4] at HR HB0 HAT0
    rw [hTT, e1, e2, e3, e4]
    have HE1 := Lib.hid e1
    have HE2 := Lib.hid e2
    have HE3 := Lib.hid (hplen.trans e3)
    have HE4 := Lib.hid (hqlen.trans e4)
    have HTT := Lib.hid hTT
    rw [e1] at hn1
    rw [e2] at hn2
    rw [e3] at hn3
    rw [e4] at hn4
    clear hTT e1 e2 e3 e4 hplen hqlen
    go_enter Tryz.func7, Tryz.ntmps7
    go_wp2_with fail
    refine (HR.out _ HB0.out).mono ?_
    rintro e w1 ⟨rfl, hb1⟩
    have hb1' := HB0.out.trans (hb1.mono HB0.out.size)
    have hat1 := HAT0.out.below hb1 HAT0.out.lt
    have HBD1 := Lib.hid (Bld.new w1)
    have hg1 := hat1.lt
    have HAT1 := Lib.hid (hat1.alloc (.cells #[.pointer none, .slice none 0 0] 56))
    have HB1 := Lib.hid (hb1'.alloc hb1'.size (.cells #[.pointer none, .slice none 0 0] 56))
    have hsz1 : (w1.alloc (.cells #[.pointer none, .slice none 0 0] 56)).heap.size = w1.heap.size + 1 := by simp
    have x0 := HAT1.out.cell 0
    have x1 := hat1.cell 0
    simp only [List.getElem?_toArray, List.getElem?_cons_zero, List.getElem?_cons_succ] at x0 x1
    have hBw1 : B ≤ w1.heap.size := Nat.le_trans hB hb1'.size
    clear hb1 hb1' hat1
    go_wp2_with fail
    obtain ⟨W, hW⟩ : ∃ W, w1.alloc (.cells #[.pointer none, .slice none 0 0] 56) = W := ⟨_, rfl⟩
    obtain ⟨b, hbb⟩ : ∃ b, w1.heap.size = b := ⟨_, rfl⟩
    obtain ⟨g, hgg⟩ : ∃ g, w.heap.size = g := ⟨_, rfl⟩
    have HGW := Lib.hid hgg
    rw [hW] at HBD1 HAT1 HB1 hsz1 ⊢
    rw [hbb] at HBD1 hsz1 hg1 hBw1 ⊢
    rw [hgg] at HAT1 hg1 ⊢
    clear x0 x1 hW hbb hgg
    obtain ⟨i0, hi, hz0, hz1, hz2⟩ := info_parts strinfo
    obtain ⟨T1, hT1⟩ : ∃ T, G.toks.flatMap Pr.tokT = T := ⟨_, rfl⟩
    obtain ⟨T2, hT2⟩ : ∃ T, G.skips.flatMap Pr.skipT = T := ⟨_, rfl⟩
    obtain ⟨T3, hT3⟩ : ∃ T, G.levels.flatMap Pr.levT = T := ⟨_, rfl⟩
    obtain ⟨T4, hT4⟩ : ∃ T, Pr.midT G.start = T := ⟨_, rfl⟩
    obtain ⟨T5, hT5⟩ : ∃ T, Pr.rulesT G.rules = T := ⟨_, rfl⟩
    have htl := HTL.out
    have htx := HTX.out
    rw [hT1, hT2, hT3, hT4, hT5] at htx
    rw [htx] at htl
    simp only [List.length_append] at htl
    have HT1 := Lib.hid hT1
    have HT2 := Lib.hid hT2
    have HT3 := Lib.hid hT3
    have HT4 := Lib.hid hT4
    have HT5 := Lib.hid hT5
    have HTX2 := Lib.hid htx
    have HLEN := Lib.hid htl
    have HBB := Lib.hid (show ∀ wr, Below b W wr → Below B w wr from fun wr hwr => (HB1.out.mono hB).trans (hwr.mono hBw1))
    have HG := Lib.hid (show ∀ wr, Below b W wr → At wr g 27 #[.slice A1 n1 c1, .slice A2 n2 c2, .slice A3 n3 c3, .string T, .slice A4 n4 c4] from fun wr hwr => HAT1.out.below hwr hg1)
    clear htl htx hT1 hT2 hT3 hT4 hT5 HTL HTX
    go_loopw [19] (fun i wr => ∃ k : Nat, k ≤ n1 ∧ i = .int .i64 (k : Int) ∧ Bld wr b b ((G.toks.take k).flatMap Pr.tokT) ∧ Below b W wr) (fun i _ => n1 - (intOf i).toNat)
    case atStart => exact ⟨0, by omega, rfl, HBD1.out, Below.refl _ _⟩
    case round =>
      obtain ⟨k, hk, rfl, hbd, hbe⟩ := hrel
      have HBD := Lib.hid hbd
      have HBE := Lib.hid hbe
      have hbl := hbd.lt
      clear hbd hbe
      by_cases hlt : k < n1
      · obtain ⟨x, ht⟩ := some_get (l := G.toks) (i := k) (by rw [HE1.out]; exact hlt)
        obtain ⟨b1, o1, hA, hbl1, hcell⟩ := (HK1.out.below (HBB.out _ HBE.out)).ex (fun e => by
          have h1 : (toksV G.toks)[k * 4 + 0]? = some (.string (str x.name)) := flat_get Rd.Tok.cells 4 (fun _ => rfl) G.toks k 0 x _ ht (by omega) rfl
          rw [e] at h1; simp at h1)
        subst hA
        have y0 : wr.cell? ⟨b1, o1 + k * 4, none⟩ = some (.string (str x.name)) := hcell _ _ (flat_get Rd.Tok.cells 4 (fun _ => rfl) G.toks k 0 x _ ht (by omega) rfl)
        have y1 : wr.cell? ⟨b1, o1 + k * 4 + 1, none⟩ = some (.string (str x.pat.text)) := by rw [Nat.add_assoc]; exact hcell _ _ (flat_get Rd.Tok.cells 4 (fun _ => rfl) G.toks k 1 x _ ht (by omega) rfl)
        have y2 : wr.cell? ⟨b1, o1 + k * 4 + 2, none⟩ = some (.string (str x.pat.set)) := by rw [Nat.add_assoc]; exact hcell _ _ (flat_get Rd.Tok.cells 4 (fun _ => rfl) G.toks k 2 x _ ht (by omega) rfl)
        have y3 : wr.cell? ⟨b1, o1 + k * 4 + 3, none⟩ = some (.bool x.pat.many) := by rw [Nat.add_assoc]; exact hcell _ _ (flat_get Rd.Tok.cells 4 (fun _ => rfl) G.toks k 3 x _ ht (by omega) rfl)
        have hok := HRI.out.toks x (List.mem_of_getElem? ht)
        unfold Pr.tokOk at hok
        rw [Bool.and_eq_true] at hok
        have hnl := Pr.name_len hok.1
        have hpl := Pr.pattern_len hok.2
        have HTK := Lib.hid (Pr.flat_take_succ Pr.tokT ht)
        have hle := Pr.flat_take_le Pr.tokT G.toks (k + 1)
        rw [HTK.out, List.length_append, HT1.out] at hle
        have hlen := HLEN.out
        have HLINE := Lib.hid (show ∀ w5, Bld w5 b b ((G.toks.take k).flatMap Pr.tokT) → _ from fun w5 h5 => line_built b _ [[37, 116, 111, 107, 101, 110], x.name, Pr.pattern x.pat] w5 h5 (by rw [jn_tok]; omega) (fun y hy => by
          simp only [List.mem_cons, List.not_mem_nil, or_false] at hy
          rcases hy with rfl | rfl | rfl
          · decide
          · omega
          · omega) (by simp))
        rw [jn_tok, show namesV [[37, 116, 111, 107, 101, 110], x.name, Pr.pattern x.pat] = [.string ⟨#[37, 116, 111, 107, 101, 110]⟩, .string (str x.name), .string (str (Pr.pattern x.pat))] from rfl] at HLINE
        have hsz := HSZ.out.tok x (List.mem_of_getElem? ht)
        have HPAT := Lib.hid (fun w => pattern7_any x.pat w (by
          have h2 := hok.2
          unfold Pr.patOk at h2
          by_cases h0 : x.pat.text = []
          · rw [h0]; simp
          · rw [if_neg h0] at h2; simp only [Bool.and_eq_true, decide_eq_true_eq] at h2; omega) (by
          have h2 := hok.2
          unfold Pr.patOk at h2
          by_cases h0 : x.pat.text = []
          · rw [if_pos h0] at h2; simp only [Bool.and_eq_true] at h2; have := Pr.rises_len h2.2; omega
          · rw [if_neg h0] at h2; simp only [Bool.and_eq_true, beq_iff_eq] at h2; rw [h2.2.1]; simp))
        unfold patV at HPAT
        generalize str (Pr.pattern x.pat) = PT at HPAT HLINE
        generalize str x.pat.text = X1 at y1 HPAT
        generalize str x.pat.set = X2 at y2 HPAT
        generalize x.pat.many = X3 at y3 HPAT
        generalize str x.name = X0 at y0 HLINE
        generalize Pr.tokT x = TX at HTK HLINE
        generalize (G.toks.take k).flatMap Pr.tokT = L at HBD HTK HLINE
        have hki : (k : Int) < (n1 : Int) := by omega
        have hk0 : (0 : Int) ≤ (k : Int) := by omega
        clear hcell ht hok hnl hpl hle hlen hsz
        go_wp2_with fail
        have hal : Below wr.heap.size wr (wr.alloc (.cells #[.string X0, .string X1, .string X2, .bool X3] 41)) := (Below.refl _ _).alloc (Nat.le_refl _) _
        have hat := At.new wr 41 #[.string X0, .string X1, .string X2, .bool X3]
        have hbdt := HBD.out.below hal
        have hbet := HBE.out.trans (hal.mono (by omega))
        obtain ⟨Wt, hWt⟩ : ∃ Wt, wr.alloc (.cells #[.string X0, .string X1, .string X2, .bool X3] 41) = Wt := ⟨_, rfl⟩
        obtain ⟨hh, hhe⟩ : ∃ hh, wr.heap.size = hh := ⟨_, rfl⟩
        rw [hWt] at hat hbdt hbet ⊢
        rw [hhe] at hat ⊢
        have HBDT := Lib.hid hbdt
        have HBET := Lib.hid hbet
        have KEEP := Lib.hid (show ∀ w', Stay 41 Wt w' → (w'.cell? ⟨hh, 0, none⟩ = some (.string X0) ∧ w'.cell? ⟨hh, 1, none⟩ = some (.string X1) ∧ w'.cell? ⟨hh, 2, none⟩ = some (.string X2) ∧ w'.cell? ⟨hh, 3, none⟩ = some (.bool X3)) from fun w' hw' => by
          have h := hw' _ _ hat
          exact ⟨h.cell 0, h.cell 1, h.cell 2, h.cell 3⟩)
        have hk00 := KEEP.out Wt (Stay.refl _ _)
        clear hal hat hbdt hbet hWt hhe y0 y1 y2 y3
        go_region_held3 (fun w' => w'.cell? ⟨hh, 0, none⟩ = some (.string X0) ∧ w'.cell? ⟨hh, 1, none⟩ = some (.string X1) ∧ w'.cell? ⟨hh, 2, none⟩ = some (.string X2) ∧ w'.cell? ⟨hh, 3, none⟩ = some (.bool X3)) (first | exact hk00 | exact hk5 | exact hk6 _ | exact hk7) (first
          | (go_at_call 12
             refine Calls.mono (HPAT.out _) ?_
             rintro e w5 ⟨rfl, hb5⟩
             have hb5' : Below Wt.heap.size Wt w5 := (below_drew (Below.refl _ _)).trans hb5
             have hst5 : Stay 41 Wt w5 := Stay.below hb5'
             have hk5 := KEEP.out w5 hst5
             have hk6 := fun o => KEEP.out (w5.alloc o) (hst5.trans (Stay.below ((Below.refl _ _).alloc (Nat.le_refl _) o)))
             have HBD5 := Lib.hid (HBDT.out.below hb5')
             have HBE5 := Lib.hid (HBET.out.trans (hb5'.mono (by have := HBDT.out.lt; omega)))
             clear hb5 hb5')
          | (go_at_call 19
             refine Calls.mono (HLINE.out w5 HBD5.out) ?_
             rintro e w7 ⟨rfl, hbd7, hbe7, hst7⟩
             have hk7 := KEEP.out w7 (hst5.trans (hst7 _ (by decide) (by decide)))
             have HBD7 := Lib.hid hbd7
             have HBE7 := Lib.hid (HBE5.out.trans hbe7)
             clear hbd7 hbe7 hst7))
        go_wp2_with fail
        go_roundw
        case rel => exact ⟨k + 1, by omega, by go_num, by rw [HTK.out]; exact HBD7.out, HBE7.out⟩
        case measure => simp [intOf]; omega
      · obtain rfl : n1 = k := by omega
        have hall : G.toks.take n1 = G.toks := by rw [← HE1.out, List.take_length]
        rw [hall, HT1.out] at HBD
        obtain ⟨wA, rfl⟩ : ∃ wA, wA = wr := ⟨wr, rfl⟩
        have HBDA := HBD
        have HBEA := HBE
        have hga := HG.out _ HBEA.out
        have q1 := hga.cell 1
        simp only [List.getElem?_toArray, List.getElem?_cons_zero, List.getElem?_cons_succ] at q1
        clear hall HBD HBE hga
        go_wp2_with fail
        go_loopw [34] (fun i wr => ∃ k : Nat, k ≤ n2 ∧ i = .int .i64 (k : Int) ∧ Bld wr b b (T1 ++ (G.skips.take k).flatMap Pr.skipT) ∧ Below b W wr) (fun i _ => n2 - (intOf i).toNat)
        case atStart => exact ⟨0, by omega, rfl, by simpa using HBDA.out, HBEA.out⟩
        case round =>
          obtain ⟨k, hk, rfl, hbd, hbe⟩ := hrel
          have HBD := Lib.hid hbd
          have HBE := Lib.hid hbe
          have hbl := hbd.lt
          clear hbd hbe
          by_cases hlt : k < n2
          · obtain ⟨x, ht⟩ := some_get (l := G.skips) (i := k) (by rw [HE2.out]; exact hlt)
            obtain ⟨b1, o1, hA, hbl1, hcell⟩ := (HK2.out.below (HBB.out _ HBE.out)).ex (fun e => by
              have h1 : (patsV G.skips)[k * 3 + 0]? = some (.string (str x.text)) := flat_get Rd.Pat.cells 3 (fun _ => rfl) G.skips k 0 x _ ht (by omega) rfl
              rw [e] at h1; simp at h1)
            subst hA
            have y0 : wr.cell? ⟨b1, o1 + k * 3, none⟩ = some (.string (str x.text)) := hcell _ _ (flat_get Rd.Pat.cells 3 (fun _ => rfl) G.skips k 0 x _ ht (by omega) rfl)
            have y1 : wr.cell? ⟨b1, o1 + k * 3 + 1, none⟩ = some (.string (str x.set)) := by rw [Nat.add_assoc]; exact hcell _ _ (flat_get Rd.Pat.cells 3 (fun _ => rfl) G.skips k 1 x _ ht (by omega) rfl)
            have y2 : wr.cell? ⟨b1, o1 + k * 3 + 2, none⟩ = some (.bool x.many) := by rw [Nat.add_assoc]; exact hcell _ _ (flat_get Rd.Pat.cells 3 (fun _ => rfl) G.skips k 2 x _ ht (by omega) rfl)
            have hok := HRI.out.skips x (List.mem_of_getElem? ht)
            have hpl := Pr.pattern_len hok
            have HTK := Lib.hid (Pr.flat_take_succ Pr.skipT ht)
            have hle := Pr.flat_take_le Pr.skipT G.skips (k + 1)
            rw [HTK.out, List.length_append, HT2.out] at hle
            have hlen := HLEN.out
            have HLINE := Lib.hid (show ∀ w5, Bld w5 b b (T1 ++ (G.skips.take k).flatMap Pr.skipT) → _ from fun w5 h5 => line_built b _ [[37, 115, 107, 105, 112], Pr.pattern x] w5 h5 (by rw [jn_skip, List.length_append]; omega) (fun y hy => by
              simp only [List.mem_cons, List.not_mem_nil, or_false] at hy
              rcases hy with rfl | rfl
              · decide
              · omega) (by simp))
            rw [jn_skip, show namesV [[37, 115, 107, 105, 112], Pr.pattern x] = [.string ⟨#[37, 115, 107, 105, 112]⟩, .string (str (Pr.pattern x))] from rfl] at HLINE
            have HPAT := Lib.hid (fun w => pattern7_any x w (by
            have h2 := hok
            unfold Pr.patOk at h2
            by_cases h0 : x.text = []
            · rw [h0]; simp
            · rw [if_neg h0] at h2; simp only [Bool.and_eq_true, decide_eq_true_eq] at h2; omega) (by
            have h2 := hok
            unfold Pr.patOk at h2
            by_cases h0 : x.text = []
            · rw [if_pos h0] at h2; simp only [Bool.and_eq_true] at h2; have := Pr.rises_len h2.2; omega
            · rw [if_neg h0] at h2; simp only [Bool.and_eq_true, beq_iff_eq] at h2; rw [h2.2.1]; simp))
            unfold patV at HPAT
            have hnx : T1 ++ (G.skips.take (k + 1)).flatMap Pr.skipT = T1 ++ (G.skips.take k).flatMap Pr.skipT ++ Pr.skipT x := by rw [HTK.out, List.append_assoc]
            have HNX := Lib.hid hnx
            generalize str (Pr.pattern x) = PT at HPAT HLINE
            generalize str x.text = X1 at y0 HPAT
            generalize str x.set = X2 at y1 HPAT
            generalize x.many = X3 at y2 HPAT
            generalize Pr.skipT x = TX at HNX HLINE
            generalize T1 ++ (G.skips.take k).flatMap Pr.skipT = L at HBD HNX HLINE
            have hki : (k : Int) < (n2 : Int) := by omega
            have hk0 : (0 : Int) ≤ (k : Int) := by omega
            have hal : Below wr.heap.size wr (wr.alloc (.cells #[.string X1, .string X2, .bool X3] 39)) := (Below.refl _ _).alloc (Nat.le_refl _) _
            have HBDT := Lib.hid (HBD.out.below hal)
            have HBET := Lib.hid (HBE.out.trans (hal.mono (by omega)))
            clear hcell ht hok hpl HTK hle hlen hnx hal
            go_wp2_with fail
            refine (HPAT.out _).mono ?_
            rintro e w5 ⟨rfl, hb5⟩
            have HBD5 := Lib.hid (HBDT.out.below hb5)
            have HBE5 := Lib.hid (HBET.out.trans (hb5.mono (by have := HBDT.out.lt; omega)))
            clear hb5
            go_wp2_with fail
            refine (HLINE.out w5 HBD5.out).mono ?_
            rintro e w7 ⟨rfl, hbd7, hbe7, hst7⟩
            have HBD7 := Lib.hid hbd7
            have HBE7 := Lib.hid (HBE5.out.trans hbe7)
            clear hbd7 hbe7 hst7
            go_wp2_with fail
            go_roundw
            case rel => exact ⟨k + 1, by omega, by go_num, by rw [HNX.out]; exact HBD7.out, HBE7.out⟩
            case measure => simp [intOf]; omega
          · obtain rfl : n2 = k := by omega
            have hall : G.skips.take n2 = G.skips := by rw [← HE2.out, List.take_length]
            rw [hall, HT2.out] at HBD
            obtain ⟨wC, rfl⟩ : ∃ wC, wC = wr := ⟨wr, rfl⟩
            have HBDC := HBD
            have HBEC := HBE
            have hga := HG.out _ HBEC.out
            have q2 := hga.cell 2
            simp only [List.getElem?_toArray, List.getElem?_cons_zero, List.getElem?_cons_succ] at q2
            clear hall HBD HBE hga q1 HBDA HBEA
            go_wp2_with fail
            go_loopw [46] (fun i wr => ∃ k : Nat, k ≤ n3 ∧ i = .int .i64 (k : Int) ∧ Bld wr b b (T1 ++ T2 ++ ((pl.map (·.1)).take k).flatMap Pr.levT) ∧ Below b W wr) (fun i _ => n3 - (intOf i).toNat)
            case atStart => exact ⟨0, by omega, rfl, by simpa using HBDC.out, HBEC.out⟩
            case round =>
              obtain ⟨k, hk, rfl, hbd, hbe⟩ := hrel
              have HBD := Lib.hid hbd
              have HBE := Lib.hid hbe
              have hbl := hbd.lt
              clear hbd hbe
              by_cases hlt : k < n3
              · obtain ⟨x, ht⟩ := some_get (l := pl) (i := k) (by rw [HE3.out]; exact hlt)
                obtain ⟨b1, o1, hA, hbl1, hcell⟩ := (HK3.out.below (HBB.out _ HBE.out)).ex (fun e => by
                  have h1 : (levsC pl)[k * 2 + 0]? = some (.int .i64 x.2.2) := flat_get levC 2 (fun _ => rfl) pl k 0 x _ ht (by omega) rfl
                  rw [e] at h1; simp at h1)
                subst hA
                have y0 : wr.cell? ⟨b1, o1 + k * 2, none⟩ = some (.int .i64 x.2.2) := hcell _ _ (flat_get levC 2 (fun _ => rfl) pl k 0 x _ ht (by omega) rfl)
                have y1 : wr.cell? ⟨b1, o1 + k * 2 + 1, none⟩ = some x.2.1 := by rw [Nat.add_assoc]; exact hcell _ _ (flat_get levC 2 (fun _ => rfl) pl k 1 x _ ht (by omega) rfl)
                obtain ⟨hasc, hnm⟩ := HK5.out x (List.mem_of_getElem? ht)
                have HNMB := Lib.hid (show ∀ w', Below b W w' → NmC w' B x.2.1 x.1.names from fun w' hw' => hnm.below (HBB.out _ hw'))
                obtain ⟨A', cap', hv1, _⟩ := hnm
                have HLIE := Lib.hid (show ∀ w', Below b W w' → Lies w' A' (namesV x.1.names) from fun w' hw' j u hu => by
                  obtain ⟨A2', c2', e2, hcl⟩ := HNMB.out w' hw'
                  rw [hv1] at e2
                  injection e2 with e2 _ _
                  subst e2
                  obtain ⟨b', o', rfl, hb', hc'⟩ := hcl.ex (fun e => by rw [e] at hu; simp at hu)
                  exact ⟨_, rfl, by rw [Go.WideShapes.add_plain]; exact hc' j u hu⟩)
                rw [hv1] at y1
                have hmem : x.1 ∈ G.levels := by rw [← HK4.out]; exact List.mem_map.2 ⟨x, List.mem_of_getElem? ht, rfl⟩
                have hok := HRI.out.levels x.1 hmem
                unfold Pr.levOk at hok
                simp only [Bool.and_eq_true, decide_eq_true_eq, List.all_eq_true] at hok
                have hwd : wordP x.2.2 = 37 :: Pr.levW x.1.assoc := by
                  rw [encA_of (a := x.2.2) (by rw [← hasc]; omega), ← hasc]
                  exact wordP_of hok.1
                have hmt : (pl.map (·.1))[k]? = some x.1 := by rw [List.getElem?_map, ht]; rfl
                have HTK := Lib.hid (Pr.flat_take_succ Pr.levT hmt)
                have hle := Pr.flat_take_le Pr.levT (pl.map (·.1)) (k + 1)
                rw [HTK.out, List.length_append, HK4.out, HT3.out] at hle
                have hlen := HLEN.out
                have hln : x.1.names.length ≤ 10000 := by
                  have h1 := HLV.out
                  unfold Pr.lvl at h1
                  have h2 : x.1.names.length ≤ (G.levels.flatMap Rd.Lev.names).length := by
                    obtain ⟨s1, s2, hs⟩ := List.append_of_mem hmem
                    rw [hs]; simp only [List.flatMap_append, List.flatMap_cons, List.length_append]; omega
                  omega
                have HLINE := Lib.hid (show ∀ A9 cap9 w5, Bld w5 b b (T1 ++ T2 ++ ((pl.map (·.1)).take k).flatMap Pr.levT) → w5.ownsRow b 9 1 (.slice A9 (1 + x.1.names.length) cap9) (1 + x.1.names.length) ([.string (str (wordP x.2.2))] ++ namesV x.1.names) → Calls Tryz.prog 19 #[.pointer (some ⟨b, 0, none⟩), .slice A9 (1 + x.1.names.length) cap9] w5 fun e w' => e = .returned (.tuple #[]) ∧ Bld w' b b (T1 ++ T2 ++ ((pl.map (·.1)).take k).flatMap Pr.levT ++ Pr.levT x.1) ∧ Below b w5 w' ∧ (∀ t, t ≠ 56 → t ≠ 5 → Stay t w5 w') from fun A9 cap9 w5 h5 ho => by
                  have e1 : 1 + x.1.names.length = ((37 :: Pr.levW x.1.assoc) :: x.1.names).length := by rw [List.length_cons, Nat.add_comm]
                  rw [hwd] at ho
                  rw [e1] at ho ⊢
                  rw [← jn_lev]
                  exact line_owned b _ ((37 :: Pr.levW x.1.assoc) :: x.1.names) b A9 cap9 w5 h5 ho (by rw [jn_lev, List.length_append, List.length_append, HK4.out]; omega) (fun y hy => by
                    rcases List.mem_cons.1 hy with rfl | hy
                    · have := Pr.levW_len x.1.assoc; simp only [List.length_cons]; omega
                    · have := Pr.name_len (hok.2.2 y hy); omega) (by simp only [List.length_cons]; omega))
                have hnx : T1 ++ T2 ++ ((pl.map (·.1)).take (k + 1)).flatMap Pr.levT = T1 ++ T2 ++ ((pl.map (·.1)).take k).flatMap Pr.levT ++ Pr.levT x.1 := by rw [HTK.out, List.append_assoc, List.append_assoc, List.append_assoc]
                have HNX := Lib.hid hnx
                have HWD := Lib.hid (fun w => word7_any x.2.2 w)
                have hone := namesV_one x.1.names
                have hnl : (namesV x.1.names).length = x.1.names.length * 1 := by rw [namesV_len, Nat.mul_one]
                generalize str (wordP x.2.2) = WT at HWD HLINE
                generalize x.2.2 = X0 at y0 HWD
                generalize namesV x.1.names = NV at HLIE HLINE hone hnl
                generalize Pr.levT x.1 = TX at HNX HLINE
                generalize T1 ++ T2 ++ ((pl.map (·.1)).take k).flatMap Pr.levT = L at HBD HNX HLINE
                generalize x.1.names.length = q at y1 HLINE hnl hln
                have HONE := Lib.hid hone
                have HNL := Lib.hid hnl
                have hki : (k : Int) < (n3 : Int) := by omega
                have hk0 : (0 : Int) ≤ (k : Int) := by omega
                have HC3 := Lib.hid (show 1 + q ≤ maxLen by unfold maxLen; omega)
                have HC4 := Lib.hid (show (1 + q) * 16 ≤ 140737488355328 by omega)
                clear hcell ht hasc hv1 hmem hok hwd hmt HTK hle hlen hln hnx hone hnl
                go_wp2_with fail
                have hal : Below wr.heap.size wr (wr.alloc (.cells #[.int .i64 X0, .slice A' q cap'] 50)) := (Below.refl _ _).alloc (Nat.le_refl _) _
                have hat := At.new wr 50 #[.int .i64 X0, .slice A' q cap']
                have hbdt := HBD.out.below hal
                have hbet := HBE.out.trans (hal.mono (by omega))
                obtain ⟨Wt, hWt⟩ : ∃ Wt, wr.alloc (.cells #[.int .i64 X0, .slice A' q cap'] 50) = Wt := ⟨_, rfl⟩
                obtain ⟨hh, hhe⟩ : ∃ hh, wr.heap.size = hh := ⟨_, rfl⟩
                rw [hWt] at hat hbdt hbet ⊢
                rw [hhe] at hat ⊢
                have HBDT := Lib.hid hbdt
                have HBET := Lib.hid hbet
                have hbWt := hbdt.lt
                have KEEP := Lib.hid (show ∀ w', Stay 50 Wt w' → (w'.cell? ⟨hh, 0, none⟩ = some (.int .i64 X0) ∧ w'.cell? ⟨hh, 1, none⟩ = some (.slice A' q cap')) from fun w' hw' => by
                  have h := hw' _ _ hat
                  exact ⟨h.cell 0, h.cell 1⟩)
                have hk00 := KEEP.out Wt (Stay.refl _ _)
                have hk01 := fun o => KEEP.out (Wt.alloc o) (Stay.below ((Below.refl _ _).alloc (Nat.le_refl _) o))
                clear hal hat hbdt hbet hWt hhe y0 y1
                have hown5 : (Wt.drew.alloc (.cells #[.string WT] 9)).ownsRow b 9 1 (.slice (some ⟨Wt.heap.size, 0, none⟩) 1 1) 1 [.string WT] := own_base (own_built Wt.drew [.string WT] 9 (by simp [maxLen])) (Nat.le_of_lt hbWt)
                have hlies5 : Lies (Wt.drew.alloc (.cells #[.string WT] 9)) A' NV := HLIE.out _ (HBET.out.trans (((below_drew (Below.refl _ _)).alloc (Nat.le_of_lt hbWt) _)))
                have hsz5 : b ≤ (Wt.drew.alloc (.cells #[.string WT] 9)).heap.size := by simp; omega
                go_region_held3 (fun w' => w'.cell? ⟨hh, 0, none⟩ = some (.int .i64 X0) ∧ w'.cell? ⟨hh, 1, none⟩ = some (.slice A' q cap')) (first | exact hk00 | exact hk01 _ | exact hk6 | exact hk7) (first
                  | (go_at_call 20
                     refine Calls.mono (HWD.out _) ?_
                     rintro e w5 ⟨rfl, rfl⟩)
                  | (go_at_call 19
                     refine Calls.mono (HLINE.out _ _ w6 HBD6.out HO6.out) ?_
                     rintro e w7 ⟨rfl, hbd7, hbe7, hst7⟩
                     have hk7 := KEEP.out w7 (HST6.out.trans (hst7 _ (by decide) (by decide)))
                     have HBD7 := Lib.hid hbd7
                     have HBE7 := Lib.hid (HBE6.out.trans hbe7)
                     clear hbd7 hbe7 hst7)
                  | (refine step_append_own4 _ (by rfl) _ _ 34 rfl b 9 i0 _ 1 16 Tryz.underlying34 hi hz0 hz1 hz2 rfl (by decide) _ 1 [.string WT] rfl hown5 A' q cap' NV rfl HNL.out hlies5 HONE.out HC3.out HC4.out hsz5 ?_
                     intro v6 w6 hown6 hg6 hn6
                     have hrow : ∀ j, (Value.slice (some ⟨Wt.heap.size, 0, none⟩) 1 1).ownBlock = some j → Wt.heap.size ≤ j := fun j hj => by simp [Value.ownBlock] at hj; omega
                     have hst6 : ∀ t, Stay t Wt w6 := fun t bb cs hb => by
                       have h1 : At ((Wt.drew).alloc (.cells #[.string WT] 9)) bb t cs := (hb.drew).alloc _
                       exact h1.grown hg6 (fun e => by have := hrow bb e.symm; have := hb.lt; omega)
                     have hbe6 : Below b Wt w6 := Below.grown ((below_drew (Below.refl b Wt)).alloc (Nat.le_of_lt hbWt) _) hg6 (by simp; omega) (fun j hj => by have := hrow j hj; omega)
                     have hk6 := KEEP.out w6 (hst6 _)
                     have hbe66 : Below Wt.heap.size Wt w6 := Below.grown ((below_drew (Below.refl Wt.heap.size Wt)).alloc (Nat.le_refl _) _) hg6 (by simp) (fun j hj => by have := hrow j hj; omega)
                     have HBD6 := Lib.hid (HBDT.out.below hbe66)
                     have HBE6 := Lib.hid (HBET.out.trans hbe6)
                     have HST6 := Lib.hid (hst6 50)
                     obtain ⟨a7, s7, rfl⟩ := own_form hown6
                     have HO6 := Lib.hid hown6
                     clear hbe6 hbe66 hst6 hrow hg6 hn6 hown6))
                go_wp2_with fail
                go_roundw
                case rel => exact ⟨k + 1, by omega, by go_num, by rw [HNX.out]; exact HBD7.out, HBE7.out⟩
                case measure => simp [intOf]; omega
              · obtain rfl : n3 = k := by omega
                have hall : (pl.map (·.1)).take n3 = pl.map (·.1) := by rw [← HE3.out, ← List.length_map (f := (·.1)), List.take_length]
                rw [hall, HK4.out, HT3.out] at HBD
                obtain ⟨wD, rfl⟩ : ∃ wD, wD = wr := ⟨wr, rfl⟩
                have HBDD := HBD
                have HBED := HBE
                have hga := HG.out _ HBED.out
                have q3 := hga.cell 3
                simp only [List.getElem?_toArray, List.getElem?_cons_zero, List.getElem?_cons_succ] at q3
                clear hall HBD HBE hga q2 HBDC HBEC
                have hlen := HLEN.out
                have hst := Pr.name_len HRI.out.start
                have h4 : T4 = (jn [[37, 115, 116, 97, 114, 116], G.start] ++ [10]) ++ (jn [[37, 37]] ++ [10]) := by rw [← HT4.out]; simp [Pr.midT, jn, Pr.rowT]
                have h4l := congrArg List.length h4
                rw [List.length_append] at h4l
                have HL19 := Lib.hid (line_built b _ [[37, 115, 116, 97, 114, 116], G.start] wD HBDD.out (by rw [List.length_append, List.length_append]; omega) (fun y hy => by
                  simp only [List.mem_cons, List.not_mem_nil, or_false] at hy
                  rcases hy with rfl | rfl
                  · decide
                  · omega) (by simp))
                have HL20 := Lib.hid (show ∀ w5, Bld w5 b b (T1 ++ T2 ++ T3 ++ (jn [[37, 115, 116, 97, 114, 116], G.start] ++ [10])) → _ from fun w5 h5 => line_built b _ [[37, 37]] w5 h5 (by rw [List.length_append, List.length_append, List.length_append]; omega) (fun y hy => by
                  simp only [List.mem_cons, List.not_mem_nil, or_false] at hy
                  subst hy; decide) (by simp))
                rw [show namesV [[37, 115, 116, 97, 114, 116], G.start] = [.string ⟨#[37, 115, 116, 97, 114, 116]⟩, .string (str G.start)] from rfl, HTT.out] at HL19
                have e45 : T1 ++ T2 ++ T3 ++ (jn [[37, 115, 116, 97, 114, 116], G.start] ++ [10]) ++ (jn [[37, 37]] ++ [10]) = T1 ++ T2 ++ T3 ++ T4 := by rw [h4]; simp only [List.append_assoc]
                rw [e45] at HL20
                generalize T1 ++ T2 ++ T3 ++ (jn [[37, 115, 116, 97, 114, 116], G.start] ++ [10]) = L19 at HL19 HL20
                have HH4 := Lib.hid h4l
                clear hlen hst h4 h4l e45
                go_wp2_with fail
                refine HL19.out.mono ?_
                rintro e w5 ⟨rfl, hbd5, hbe5, _⟩
                have HBD5 := Lib.hid hbd5
                have HBE5 := Lib.hid (HBED.out.trans hbe5)
                clear hbd5 hbe5 q3
                go_wp2_with fail
                refine (HL20.out w5 HBD5.out).mono ?_
                rintro e w6 ⟨rfl, hbd6, hbe6, _⟩
                have HBD6 := Lib.hid hbd6
                have HBE6 := Lib.hid (HBE5.out.trans hbe6)
                have hga := HG.out _ HBE6.out
                have q4 := hga.cell 4
                simp only [List.getElem?_toArray, List.getElem?_cons_zero, List.getElem?_cons_succ] at q4
                clear hbd6 hbe6 hga HBDD HBED HBD5 HBE5 HL19 HL20
                go_wp2_with fail
                go_loopw [68] (fun i wr => ∃ k : Nat, k ≤ n4 ∧ i = .int .i64 (k : Int) ∧ Bld wr b b (T1 ++ T2 ++ T3 ++ T4 ++ ((ql.map (·.1)).take k).flatMap (fun r => Pr.ruleT r ++ [10])) ∧ Below b W wr) (fun i _ => n4 - (intOf i).toNat)
                case atStart => exact ⟨0, by omega, rfl, by simpa using HBD6.out, HBE6.out⟩
                case round =>
                  obtain ⟨k, hk, rfl, hbd, hbe⟩ := hrel
                  have HBD := Lib.hid hbd
                  have HBE := Lib.hid hbe
                  have hbl := hbd.lt
                  clear hbd hbe
                  by_cases hlt : k < n4
                  · obtain ⟨x, ht⟩ := some_get (l := ql) (i := k) (by rw [HE4.out]; exact hlt)
                    obtain ⟨b1, o1, hA, hbl1, hcell⟩ := (HK6.out.below (HBB.out _ HBE.out)).ex (fun e => by
                      have h1 : (rulesV ql)[k * 4 + 0]? = some (.string (str x.1.left)) := flat_get ruleCells 4 (fun _ => rfl) ql k 0 x _ ht (by omega) rfl
                      rw [e] at h1; simp at h1)
                    subst hA
                    have y0 : wr.cell? ⟨b1, o1 + k * 4, none⟩ = some (.string (str x.1.left)) := hcell _ _ (flat_get ruleCells 4 (fun _ => rfl) ql k 0 x _ ht (by omega) rfl)
                    have y1 : wr.cell? ⟨b1, o1 + k * 4 + 1, none⟩ = some x.2 := by rw [Nat.add_assoc]; exact hcell _ _ (flat_get ruleCells 4 (fun _ => rfl) ql k 1 x _ ht (by omega) rfl)
                    have y2 : wr.cell? ⟨b1, o1 + k * 4 + 2, none⟩ = some (.string (str x.1.prec)) := by rw [Nat.add_assoc]; exact hcell _ _ (flat_get ruleCells 4 (fun _ => rfl) ql k 2 x _ ht (by omega) rfl)
                    have y3 : wr.cell? ⟨b1, o1 + k * 4 + 3, none⟩ = some (.string (str x.1.action)) := by rw [Nat.add_assoc]; exact hcell _ _ (flat_get ruleCells 4 (fun _ => rfl) ql k 3 x _ ht (by omega) rfl)
                    have hnm := HK8.out x (List.mem_of_getElem? ht)
                    obtain ⟨A', cap', hv1, hcl⟩ := hnm
                    rw [hv1] at y1
                    have hmem : x.1 ∈ G.rules := by rw [← HK7.out]; exact List.mem_map.2 ⟨x, List.mem_of_getElem? ht, rfl⟩
                    have hok := HRI.out.each x.1 hmem
                    have hrl := Pr.ruleT_len hok
                    unfold Pr.ruleOk at hok
                    simp only [Bool.and_eq_true, Bool.or_eq_true, decide_eq_true_eq, beq_iff_eq, List.all_eq_true] at hok
                    obtain ⟨ok1, ok2, ok3, ok4, ok5⟩ := hok
                    have HRULE := Lib.hid (show ∀ w5, Below b W w5 → b ≤ w5.heap.size → Calls Tryz.prog 10 #[.agg #[.string (str x.1.left), .slice A' x.1.right.length cap', .string (str x.1.prec), .string (str x.1.action)]] w5 fun e w' => e = .returned (.string (str (Pr.ruleT x.1))) ∧ Below w5.heap.size w5 w' from fun w5 h5 hb5 =>
                      rule7_any x.1 A' cap' B w5 (hcl.below (HBB.out _ h5)) (by omega) ⟨by have := Pr.name_len ok1; omega, by
                        rcases ok4 with h | h
                        · rw [h]; simp
                        · have := Pr.name_len h; omega, by have := Pr.action_len ok5; omega, by omega, fun n hn => by have := Pr.name_len (ok3 n hn); omega⟩)
                    have hmt : (ql.map (·.1))[k]? = some x.1 := by rw [List.getElem?_map, ht]; rfl
                    have HTK := Lib.hid (Pr.flat_take_succ (fun r => Pr.ruleT r ++ [10]) hmt)
                    have hle := Pr.flat_take_le (fun r => Pr.ruleT r ++ [10]) (ql.map (·.1)) (k + 1)
                    rw [HTK.out, List.length_append, HK7.out] at hle
                    have h5l : (G.rules.flatMap fun r => Pr.ruleT r ++ [10]).length = T5.length := by rw [← HT5.out]; rfl
                    rw [h5l] at hle
                    have hlen := HLEN.out
                    have hjr : jn [Pr.ruleT x.1] = Pr.ruleT x.1 := by simp [jn, Pr.rowT]
                    have HLINE := Lib.hid (show ∀ w5, Bld w5 b b (T1 ++ T2 ++ T3 ++ T4 ++ ((ql.map (·.1)).take k).flatMap (fun r => Pr.ruleT r ++ [10])) → _ from fun w5 h5 => line_built b _ [Pr.ruleT x.1] w5 h5 (by rw [hjr, List.length_append, List.length_append, List.length_append, List.length_append, HK7.out]; omega) (fun y hy => by
                      simp only [List.mem_cons, List.not_mem_nil, or_false] at hy
                      subst hy; omega) (by simp))
                    rw [hjr, show namesV [Pr.ruleT x.1] = [.string (str (Pr.ruleT x.1))] from rfl] at HLINE
                    have hnx : T1 ++ T2 ++ T3 ++ T4 ++ ((ql.map (·.1)).take (k + 1)).flatMap (fun r => Pr.ruleT r ++ [10]) = T1 ++ T2 ++ T3 ++ T4 ++ ((ql.map (·.1)).take k).flatMap (fun r => Pr.ruleT r ++ [10]) ++ (Pr.ruleT x.1 ++ [10]) := by rw [HTK.out]; simp only [List.append_assoc]
                    have HNX := Lib.hid hnx
                    generalize str (Pr.ruleT x.1) = RT at HRULE HLINE
                    generalize str x.1.left = X0 at y0 HRULE
                    generalize str x.1.prec = X2 at y2 HRULE
                    generalize str x.1.action = X3 at y3 HRULE
                    generalize x.1.right.length = q at y1 HRULE
                    generalize Pr.ruleT x.1 ++ [10] = TX at HNX HLINE
                    generalize T1 ++ T2 ++ T3 ++ T4 ++ ((ql.map (·.1)).take k).flatMap (fun r => Pr.ruleT r ++ [10]) = L at HBD HNX HLINE
                    have hki : (k : Int) < (n4 : Int) := by omega
                    have hk0 : (0 : Int) ≤ (k : Int) := by omega
                    have hal : Below wr.heap.size wr (wr.alloc (.cells #[.string X0, .slice A' q cap', .string X2, .string X3] 36)) := (Below.refl _ _).alloc (Nat.le_refl _) _
                    have HBDT := Lib.hid (HBD.out.below hal)
                    have HBET := Lib.hid (HBE.out.trans (hal.mono (by omega)))
                    clear hcell ht hv1 hcl hmem hrl ok1 ok2 ok3 ok4 ok5 hmt HTK hle h5l hlen hjr hnx hal
                    go_wp2_with fail
                    refine (HRULE.out _ HBET.out (by have := HBDT.out.lt; omega)).mono ?_
                    rintro e w5 ⟨rfl, hb5⟩
                    have HBD5 := Lib.hid (HBDT.out.below hb5)
                    have HBE5 := Lib.hid (HBET.out.trans (hb5.mono (by have := HBDT.out.lt; omega)))
                    clear hb5
                    go_wp2_with fail
                    refine (HLINE.out w5 HBD5.out).mono ?_
                    rintro e w7 ⟨rfl, hbd7, hbe7, hst7⟩
                    have HBD7 := Lib.hid hbd7
                    have HBE7 := Lib.hid (HBE5.out.trans hbe7)
                    clear hbd7 hbe7 hst7
                    go_wp2_with fail
                    go_roundw
                    case rel => exact ⟨k + 1, by omega, by go_num, by rw [HNX.out]; exact HBD7.out, HBE7.out⟩
                    case measure => simp [intOf]; omega
                  · obtain rfl : n4 = k := by omega
                    have hall : (ql.map (·.1)).take n4 = ql.map (·.1) := by rw [← HE4.out, ← List.length_map (f := (·.1)), List.take_length]
                    have h5l : (G.rules.flatMap fun r => Pr.ruleT r ++ [10]) = T5 := HT5.out
                    rw [hall, HK7.out, h5l, show T1 ++ T2 ++ T3 ++ T4 ++ T5 = Pr.text G from by rw [HTX2.out]; simp only [List.append_assoc]] at HBD
                    have hT0 : Pr.text G ≠ [] := by
                      intro e
                      have h1 := congrArg List.length HTX2.out
                      rw [e] at h1
                      have h2 := congrArg List.length HT4.out
                      simp only [Pr.midT, List.length_append, List.length_cons, List.length_nil] at h1 h2
                      omega
                    have hTl : (Pr.text G).length ≤ 900000 := by
                      have h1 := congrArg List.length HTX2.out
                      have h2 := HLEN.out
                      simp only [List.length_append] at h1
                      omega
                    have HBEF := Lib.hid (show Below w.heap.size w wr from HB1.out.trans (HBE.out.mono (by have := HGW.out; omega)))
                    have hfin : ∀ w', Below b wr w' → Below w.heap.size w w' := fun w' hw' => HBEF.out.trans (hw'.mono (by have := HGW.out; omega))
                    have HFIN := Lib.hid hfin
                    obtain ⟨TT, hTT⟩ : ∃ TT, Pr.text G = TT := ⟨_, rfl⟩
                    rw [hTT] at HBD hT0 hTl
                    have HTE := Lib.hid hTT
                    clear hTT
                    clear hall h5l hfin HBE
                    by_cases h4 : 4000 < TT.length
                    · have h4i : (4000 : Int) < (TT.length : Int) := by omega
                      have H4 := Lib.hid h4
                      clear h4
                      go_wp2_with fail
                      refine (len_any b b TT wr HBD.out).mono ?_
                      rintro e w8 ⟨rfl, rfl⟩
                      go_wp2_with fail
                      go_ret2
                      exact ⟨by rw [← HPV.out, HTE.out, if_pos H4.out]; rfl, HBEF.out⟩
                    · have h4i : ¬ (4000 : Int) < (TT.length : Int) := by omega
                      have H4 := Lib.hid h4
                      clear h4
                      go_wp2_with fail
                      refine (len_any b b TT wr HBD.out).mono ?_
                      rintro e w8 ⟨rfl, rfl⟩
                      go_wp2_with fail
                      refine (string_any b b TT _ HBD.out hT0 (by omega)).mono ?_
                      rintro e w9 ⟨rfl, hb9⟩
                      go_wp2_with fail
                      go_ret2
                      exact ⟨by rw [← HPV.out, HTE.out, if_neg H4.out]; rfl, HFIN.out _ hb9⟩
end Go.Proofs.YtpgmapjjjpcmfaaGreatDoor
