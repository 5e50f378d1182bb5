import Derived.Test.YtdhhkancbgealaaGreatT07
import Derived.Test.YtdhhkancbgealaaGreatT15
namespace Go.Proofs.YtdhhkancbgealaaGreat
open Go.RowKit
open Lx
set_option linter.unusedVariables false
set_option linter.unusedSimpArgs false
set_option maxRecDepth 100000
theorem pat_get {w : World} {B : Nat} {A : Option Addr} {L : List Rd.Pat} (h : Cl w B A (patsV L)) {k : Nat} {x : Rd.Pat} (hk : L[k]? = some x) :
    ∃ b o, A = some ⟨b, o, none⟩ ∧ b < B ∧ w.cell? ⟨b, o + k * 3, none⟩ = some (.string (str x.text)) ∧ w.cell? ⟨b, o + k * 3 + 1, none⟩ = some (.string (str x.set)) ∧ w.cell? ⟨b, o + k * 3 + 2, none⟩ = some (.bool x.many) := by
  have hv := fun j u (hj : j < 3) (hu : x.cells[j]? = some u) => flat_get Rd.Pat.cells 3 (fun _ => rfl) L k j x u hk hj hu
  obtain ⟨b, o, rfl, hb, hcell⟩ := h.ex (fun e => by
    have h : (patsV L)[k * 3 + 0]? = some (.string (str x.text)) := hv 0 _ (by omega) rfl
    rw [e] at h; simp at h)
  exact ⟨b, o, rfl, hb, hcell _ _ (hv 0 _ (by omega) rfl), by rw [Nat.add_assoc]; exact hcell _ _ (hv 1 _ (by omega) rfl), by rw [Nat.add_assoc]; exact hcell _ _ (hv 2 _ (by omega) rfl)⟩
theorem lev_get9 {w : World} {B : Nat} {A : Option Addr} {pl : List (Rd.Lev × Value × Int)} (h : Cl w B A (levsC pl)) {k : Nat} {x : Rd.Lev × Value × Int} (hk : pl[k]? = some x) :
    ∃ b o, A = some ⟨b, o, none⟩ ∧ b < B ∧ w.cell? ⟨b, o + k * 2, none⟩ = some (.int .i64 x.2.2) ∧ w.cell? ⟨b, o + k * 2 + 1, none⟩ = some x.2.1 := by
  have hv := fun j u (hj : j < 2) (hu : (levC x)[j]? = some u) => flat_get levC 2 (fun _ => rfl) pl k j x u hk hj hu
  obtain ⟨b, o, rfl, hb, hcell⟩ := h.ex (fun e => by
    have h : (levsC pl)[k * 2 + 0]? = some (.int .i64 x.2.2) := hv 0 _ (by omega) rfl
    rw [e] at h; simp at h)
  exact ⟨b, o, rfl, hb, hcell _ _ (hv 0 _ (by omega) rfl), by rw [Nat.add_assoc]; exact hcell _ _ (hv 1 _ (by omega) rfl)⟩
theorem ok_take {α : Type} {p : α → Prop} {l : List α} {k : Nat} {x : α} (hx : l[k]? = some x) (h : ∀ y ∈ l.take k, p y) (hp : p x) : ∀ y ∈ l.take (k + 1), p y := by
  intro y hy
  rw [List.take_add_one, hx] at hy
  rcases List.mem_append.1 hy with h1 | h1
  · exact h y h1
  · simp at h1; subst h1; exact hp
theorem cl_get7 {w : World} {B : Nat} {A : Option Addr} {l : List Rd.Name} (h : Cl w B A (namesV l)) {k : Nat} {x : Rd.Name} (hk : l[k]? = some x) : ∃ b o, A = some ⟨b, o, none⟩ ∧ b < B ∧ w.cell? ⟨b, o + k, none⟩ = some (.string (str x)) := by
  have h1 := namesV_get hk
  obtain ⟨b, o, hA, hb, hc⟩ := h.ex (fun e => by rw [e] at h1; simp at h1)
  exact ⟨b, o, hA, hb, hc _ _ h1⟩
theorem onceB_iff (l : List Rd.Name) : Pr.onceB l = true ↔ (∀ x ∈ l, Pr.nameOk x = true) ∧ l.Nodup := by
  unfold Pr.onceB
  rw [Bool.and_eq_true, List.all_eq_true, decide_eq_true_eq]
theorem right_once {G : Rd.G} (h : Pr.Right G) : Pr.onceB (G.toks.map Rd.Tok.name) = true ∧ Pr.onceB (Pr.lvl G) = true := by
  rw [onceB_iff, onceB_iff]
  refine ⟨⟨fun x hx => ?_, h.tonce⟩, fun x hx => ?_, h.lonce⟩
  · obtain ⟨t, ht, rfl⟩ := List.mem_map.1 hx
    have := h.toks t ht
    unfold Pr.tokOk at this
    simp only [Bool.and_eq_true] at this
    exact this.1
  · unfold Pr.lvl at hx
    obtain ⟨v, hv, hxv⟩ := List.mem_flatMap.1 hx
    have := h.levels v hv
    unfold Pr.levOk at this
    simp only [Bool.and_eq_true, decide_eq_true_eq, List.all_eq_true] at this
    exact this.2.2 x hxv
def Lev7 (v : Rd.Lev) : Prop := 1 ≤ v.assoc ∧ v.assoc ≤ 3 ∧ v.names ≠ []
theorem right_of7 {G : Rd.G} (h1 : G.toks.length ≤ 20) (h2 : G.skips.length ≤ 4) (h3 : G.levels.length ≤ 10) (h4 : 1 ≤ G.rules.length ∧ G.rules.length ≤ 40) (h5 : Pr.nameOk G.start = true) (h6 : ∀ t ∈ G.toks, Pr.patOk t.pat = true) (h7 : ∀ t ∈ G.skips, Pr.patOk t = true)
    (h8 : ∀ v ∈ G.levels, Lev7 v) (h9 : ∀ r ∈ G.rules, Pr.ruleOk r = true) (h10 : Pr.onceB (G.toks.map Rd.Tok.name) = true) (h11 : Pr.onceB (Pr.lvl G) = true) : Pr.Right G := by
  rw [onceB_iff] at h10 h11
  refine ⟨h1, h2, h3, h4.2, fun e => by rw [e] at h4; simp at h4, h5, fun t ht => ?_, h7, fun v hv => ?_, h9, h10.2, h11.2⟩
  · unfold Pr.tokOk
    rw [Bool.and_eq_true]
    exact ⟨h10.1 _ (List.mem_map.2 ⟨t, ht, rfl⟩), h6 t ht⟩
  · obtain ⟨a, b, c⟩ := h8 v hv
    unfold Pr.levOk
    simp only [Bool.and_eq_true, decide_eq_true_eq, List.all_eq_true, bne_iff_ne]
    exact ⟨⟨a, b⟩, c, fun n hn => h11.1 n (by unfold Pr.lvl; exact List.mem_flatMap.2 ⟨v, hv, hn⟩)⟩
theorem right_lev {G : Rd.G} (h : Pr.Right G) {v : Rd.Lev} (hv : v ∈ G.levels) : Lev7 v := by
  have := h.levels v hv
  unfold Pr.levOk at this
  simp only [Bool.and_eq_true, decide_eq_true_eq, List.all_eq_true, bne_iff_ne] at this
  exact ⟨this.1.1, this.1.2, this.2.1⟩
theorem ruleOk_parts {r : Rd.Rule} : Pr.ruleOk r = true ↔ Pr.nameOk r.left = true ∧ r.right.length ≤ 8 ∧ (∀ n ∈ r.right, Pr.nameOk n = true) ∧ (r.prec = [] ∨ Pr.nameOk r.prec = true) ∧ Pr.actOk r.action = true := by
  unfold Pr.ruleOk
  simp only [Bool.and_eq_true, Bool.or_eq_true, decide_eq_true_eq, beq_iff_eq, List.all_eq_true]
theorem lvl_take {G : Rd.G} {k : Nat} {v : Rd.Lev} (h : G.levels[k]? = some v) : (G.levels.take (k + 1)).flatMap Rd.Lev.names = (G.levels.take k).flatMap Rd.Lev.names ++ v.names := by
  rw [List.take_add_one, h]; simp
theorem lvl_len (G : Rd.G) (k : Nat) : ((G.levels.take k).flatMap Rd.Lev.names).length ≤ (Pr.lvl G).length := by
  unfold Pr.lvl
  conv => rhs; rw [← List.take_append_drop k G.levels]
  rw [List.flatMap_append, List.length_append]; omega
set_option maxHeartbeats 8000000 in
theorem rright7_any (v : Value) (G : Rd.G) (B : Nat) (w : World) (h : GramC w B v G) (hB : B ≤ w.heap.size) (hs : Sz G) (hN : (Pr.lvl G).length ≤ 1000000) :
    Calls Tryz.prog 65 #[v] w fun e w' => e = .returned (.bool (Pr.rightB G)) ∧ Below w.heap.size w w' := by
  obtain ⟨A1, c1, A2, c2, A3, c3, A4, c4, pl, ql, rfl, k1, k2, k3, k4, k5, k6, k7, k8⟩ := h.ex
  have hru : RulsC w B A4 G.rules := ⟨ql, k6, k7, k8⟩
  have hpl : pl.length = G.levels.length := by rw [← k4, List.length_map]
  obtain ⟨i0, hi, hz0, hz1, hz2⟩ := info_parts strinfo
  have HSZ := Lib.hid hs
  have HN := Lib.hid hN
  obtain ⟨R, hR⟩ : ∃ R, Pr.rightB G = R := ⟨_, rfl⟩
  have HNO := Lib.hid (show ¬ Pr.Right G → R = false from fun hn => by
    cases hq : Pr.rightB G with
    | true => exact absurd ((Pr.rightB_iff G).1 hq) hn
    | false => rw [← hR, hq])
  have HYES := Lib.hid (show Pr.Right G → R = true from fun hn => by rw [← hR, (Pr.rightB_iff G).2 hn])
  rw [hR]
  have HST := Lib.hid (fun w => rname7_any G.start w (by have := hs.start; omega))
  obtain ⟨st, hst⟩ : ∃ st, str G.start = st := ⟨_, rfl⟩
  rw [hst] at HST ⊢
  obtain ⟨n1, hn1⟩ : ∃ n, G.toks.length = n := ⟨_, rfl⟩
  obtain ⟨n2, hn2⟩ : ∃ n, G.skips.length = n := ⟨_, rfl⟩
  obtain ⟨n3, hn3⟩ : ∃ n, G.levels.length = n := ⟨_, rfl⟩
  obtain ⟨n4, hn4⟩ : ∃ n, G.rules.length = n := ⟨_, rfl⟩
  rw [hn3] at hpl
  rw [hn1, hn2, hn3, hn4]
  have HN1 := Lib.hid hn1
  have HN2 := Lib.hid hn2
  have HN3 := Lib.hid hn3
  have HN4 := Lib.hid hn4
  have HPL := Lib.hid hpl
  have HQ3 := Lib.hid k4
  have hb := (Below.refl w.heap.size w).alloc (Nat.le_refl _) (.cells #[.slice A1 n1 c1, .slice A2 n2 c2, .slice A3 n3 c3, .string st, .slice A4 n4 c4] 84)
  have hat := At.new w 84 #[.slice A1 n1 c1, .slice A2 n2 c2, .slice A3 n3 c3, .string st, .slice A4 n4 c4]
  have L1 := Lib.hid (k1.below (hb.mono hB))
  have L2 := Lib.hid (k2.below (hb.mono hB))
  have L3 := Lib.hid (k3.below (hb.mono hB))
  have L4 := Lib.hid (hru.below (hb.mono hB))
  have J3 := Lib.hid (show ∀ p ∈ pl, p.1.assoc = encA p.2.2 ∧ NmC _ B p.2.1 p.1.names from fun p hp => ⟨(k5 p hp).1, (k5 p hp).2.below (hb.mono hB)⟩)
  obtain ⟨W0, hW0⟩ : ∃ W0, w.alloc (.cells #[.slice A1 n1 c1, .slice A2 n2 c2, .slice A3 n3 c3, .string st, .slice A4 n4 c4] 84) = W0 := ⟨_, rfl⟩
  rw [hW0] at hb hat L1 L2 L3 L4 J3
  have HW0 := Lib.hid hW0
  obtain ⟨g, hg⟩ : ∃ g, w.heap.size = g := ⟨_, rfl⟩
  rw [hg] at hat
  have HG := Lib.hid hg
  have HB := Lib.hid hb
  have HAT := Lib.hid hat
  have hB0 : B ≤ W0.heap.size := Nat.le_trans hB hb.size
  clear h hs hN k1 k2 k3 k4 k5 k6 k7 k8 hru hR hst hn1 hn2 hn3 hn4 hb hat hW0 hpl
  by_cases h1 : n1 ≤ 20
  rotate_left
  · have e1 : (20 : Int) < (n1 : Int) := by omega
    have HF := Lib.hid (HNO.out (fun hr => by have h1 := hr.ntok; rw [HN1.out] at h1; omega))
    clear h1 hg
    go_enter Tryz.func65, Tryz.ntmps65
    go_wp2_with fail
    rw [HW0.out]
    go_ret
    exact ⟨by rw [HF.out]; rfl, HB.out⟩
  have e1 : ¬ (20 : Int) < (n1 : Int) := by omega
  by_cases h2 : n2 ≤ 4
  rotate_left
  · have e2 : (4 : Int) < (n2 : Int) := by omega
    have HF := Lib.hid (HNO.out (fun hr => by have h1 := hr.nskip; rw [HN2.out] at h1; omega))
    clear h2 hg
    go_enter Tryz.func65, Tryz.ntmps65
    go_wp2_with fail
    rw [HW0.out]
    go_ret
    exact ⟨by rw [HF.out]; rfl, HB.out⟩
  have e2 : ¬ (4 : Int) < (n2 : Int) := by omega
  by_cases h3 : n3 ≤ 10
  rotate_left
  · have e3 : (10 : Int) < (n3 : Int) := by omega
    have HF := Lib.hid (HNO.out (fun hr => by have h1 := hr.nlev; rw [HN3.out] at h1; omega))
    clear h3 hg
    go_enter Tryz.func65, Tryz.ntmps65
    go_wp2_with fail
    rw [HW0.out]
    go_ret
    exact ⟨by rw [HF.out]; rfl, HB.out⟩
  have e3 : ¬ (10 : Int) < (n3 : Int) := by omega
  by_cases h4 : 1 ≤ n4
  rotate_left
  · have e4 : (n4 : Int) < 1 := by omega
    have HF := Lib.hid (HNO.out (fun hr => by have h1 := List.length_pos_iff.2 hr.rules; rw [HN4.out] at h1; omega))
    clear h4 hg
    go_enter Tryz.func65, Tryz.ntmps65
    go_wp2_with fail
    rw [HW0.out]
    go_ret
    exact ⟨by rw [HF.out]; rfl, HB.out⟩
  have e4 : ¬ (n4 : Int) < 1 := by omega
  by_cases h5 : n4 ≤ 40
  rotate_left
  · have e5 : (40 : Int) < (n4 : Int) := by omega
    have HF := Lib.hid (HNO.out (fun hr => by have h1 := hr.nrule; rw [HN4.out] at h1; omega))
    clear h5 hg
    go_enter Tryz.func65, Tryz.ntmps65
    go_wp2_with fail
    rw [HW0.out]
    go_ret
    exact ⟨by rw [HF.out]; rfl, HB.out⟩
  have e5 : ¬ (40 : Int) < (n4 : Int) := by omega
  by_cases h6 : Pr.nameOk G.start = true
  rotate_left
  · have h6' : Pr.nameOk G.start = false := by simpa using h6
    rw [h6'] at HST
    have HF := Lib.hid (HNO.out (fun hr => h6 hr.start))
    clear h6 h6' hg
    go_enter Tryz.func65, Tryz.ntmps65
    go_wp2_with fail
    refine (HST.out _).mono ?_
    rintro e w2 ⟨rfl, rfl⟩
    go_wp2_with fail
    rw [HW0.out]
    go_ret
    exact ⟨by rw [HF.out]; rfl, HB.out⟩
  have HS6 := Lib.hid h6
  rw [h6] at HST
  clear h6
  go_enter Tryz.func65, Tryz.ntmps65
  go_wp2_with fail
  refine (HST.out _).mono ?_
  rintro e w2 ⟨rfl, rfl⟩
  go_wp2_with fail
  rw [HW0.out]
  try rw [hg]
  clear hg e1 e2 e3 e4 e5
  go_loopw [3, 4] (fun v i wr => ∃ (k : Nat) (a : Option Addr) (s : Nat), k ≤ n1 ∧ i = .int .i64 (k : Int) ∧ v = .slice a k s ∧ (∀ t ∈ G.toks.take k, Pr.patOk t.pat = true) ∧ wr.ownsRow W0.heap.size 9 1 v k (namesV ((G.toks.map Rd.Tok.name).take k)) ∧ Below W0.heap.size W0 wr) (fun _ i _ => n1 - (intOf i).toNat)
  case atStart => exact ⟨0, none, 0, by omega, rfl, rfl, by simp, World.ownsRow_nil _ _ _ _, Below.refl _ _⟩
  case round =>
    obtain ⟨k, a, s, hk, rfl, rfl, hok, hown, hbw⟩ := hrel
    have HOK := Lib.hid hok
    have HO := Lib.hid hown
    have HBW := Lib.hid hbw
    have hsz := hbw.size
    clear hok hown hbw
    have hatr := HAT.out.below HBW.out HAT.out.lt
    have x0 := hatr.cell 0
    have x1 := hatr.cell 1
    have x2 := hatr.cell 2
    have x3 := hatr.cell 3
    have x4 := hatr.cell 4
    have hgl := hatr.lt
    simp only [List.getElem?_toArray, List.getElem?_cons_zero, List.getElem?_cons_succ] at x0 x1 x2 x3 x4
    clear hatr
    by_cases hlt : k < n1
    · obtain ⟨x, ht⟩ := some_get (l := G.toks) (i := k) (by rw [HN1.out]; exact hlt)
      obtain ⟨b, o, hA, hbl, y0, y1, y2, y3⟩ := tok_get (L1.out.below (HBW.out.mono hB0)) ht
      subst hA
      have hxs := HSZ.out.tok x (List.mem_of_getElem? ht)
      have HTK := Lib.hid (show namesV ((G.toks.map Rd.Tok.name).take (k + 1)) = namesV ((G.toks.map Rd.Tok.name).take k) ++ [.string (str x.name)] by
        rw [List.take_add_one, List.getElem?_map, ht]; simp [namesV])
      have HX := Lib.hid ht
      obtain ⟨X0, hX0⟩ : ∃ X0, str x.name = X0 := ⟨_, rfl⟩
      rw [hX0] at y0 HTK
      have HPC := Lib.hid (fun w => rpat7_any x.pat w hxs.2.1 hxs.2.2)
      have hki : (k : Int) < (n1 : Int) := by omega
      have hk0 : (0 : Int) ≤ (k : Int) := by omega
      have hc3 : k + 1 ≤ maxLen := by unfold maxLen; omega
      have hc4 : (k + 1) * 16 ≤ 140737488355328 := by omega
      clear ht hX0 hxs y1 y2 y3
      go_wp2_with (at_builtin; refine wpList_append_own2 _ rfl _ _ 30 rfl W0.heap.size 9 i0 _ 1 16 Tryz.underlying30 hi hz0 hz1 hz2 rfl (by decide) _ _ _ rfl (HO.out.alloc _) ⟨wr.heap.size, 0, none⟩ 1 1 [.string X0] rfl rfl (cells_new _ _ _) (by simp [Value.oneCell']) hc3 hc4 (by simp; omega) ?_)
      intro v' w5 hown' hg5 _
      obtain ⟨a7, s7, rfl⟩ := own_form hown'
      have HN5 := Lib.hid (show w5.ownsRow W0.heap.size 9 1 (.slice a7 (k + 1) s7) (k + 1) (namesV ((G.toks.map Rd.Tok.name).take (k + 1))) by rw [HTK.out]; exact hown')
      have HB5 := Lib.hid (Below.grown (HBW.out.alloc hsz (.cells #[.string X0] 9)) hg5 (by simp; omega) (fun j hj => (own_lt HO.out j hj).1))
      clear hown' hg5 x0 x1 x2 x3 x4 y0
      have hat5 := HAT.out.below HB5.out HAT.out.lt
      have x0 := hat5.cell 0
      have hgl5 := hat5.lt
      simp only [List.getElem?_toArray, List.getElem?_cons_zero, List.getElem?_cons_succ] at x0
      obtain ⟨b', o', hA', hbl', z0, y1, y2, y3⟩ := tok_get (L1.out.below (HB5.out.mono hB0)) HX.out
      simp only [Option.some.injEq, Addr.mk.injEq, and_true] at hA'
      obtain ⟨rfl, rfl⟩ := hA'
      unfold patV at HPC
      generalize str x.pat.text = X1 at y1 HPC
      generalize str x.pat.set = X2 at y2 HPC
      generalize x.pat.many = X3 at y3 HPC
      clear hat5 z0
      cases hq : Pr.patOk x.pat with
      | false =>
        rw [hq] at HPC
        have HF := Lib.hid (HNO.out (fun hr => by
          have h1 := hr.toks x (List.mem_of_getElem? HX.out)
          unfold Pr.tokOk at h1
          rw [hq, Bool.and_false] at h1
          cases h1))
        clear hq
        go_wp2_with fail
        refine (HPC.out _).mono ?_
        rintro e w6 ⟨rfl, hb6⟩
        have HB6 := Lib.hid (HB.out.trans ((HB5.out.trans (hb6.mono HB5.out.size)).mono HB.out.size))
        clear hb6
        go_wp2_with fail
        go_ret
        exact ⟨by rw [HF.out]; rfl, HB6.out⟩
      | true =>
        rw [hq] at HPC
        have HQ := Lib.hid hq
        clear hq
        go_wp2_with fail
        refine (HPC.out _).mono ?_
        rintro e w6 ⟨rfl, hb6⟩
        have HB6 := Lib.hid (HB5.out.trans (hb6.mono HB5.out.size))
        have HO6 := Lib.hid (own_stay HN5.out (Stay.below hb6))
        clear hb6
        go_wp2_with fail
        go_roundw
        case rel => exact ⟨k + 1, a7, s7, by omega, by go_num, rfl, ok_take HX.out HOK.out HQ.out, HO6.out, HB6.out⟩
        case measure => simp [intOf]; omega
    · obtain rfl : n1 = k := by omega
      have htl : G.toks.take n1 = G.toks := by rw [← HN1.out, List.take_length]
      have htl2 : (G.toks.map Rd.Tok.name).take n1 = G.toks.map Rd.Tok.name := by rw [← HN1.out, ← List.length_map (f := Rd.Tok.name), List.take_length]
      rw [htl] at HOK
      rw [htl2] at HO
      clear htl htl2
      go_wp2_with fail
      clear x0 x1 x2 x3 x4 hgl hsz
      obtain ⟨W1, hW1⟩ : ∃ W1, wr = W1 := ⟨_, rfl⟩
      rw [hW1] at HO HBW ⊢
      have HBW1 := HBW
      have HO1 := HO
      have HOK1 := HOK
      clear hW1 HBW HO HOK
      have hB1 : B ≤ W1.heap.size := Nat.le_trans hB0 HBW1.out.size
      go_loopw [5] (fun i wr => ∃ (k : Nat), k ≤ n2 ∧ i = .int .i64 (k : Int) ∧ (∀ t ∈ G.skips.take k, Pr.patOk t = true) ∧ Below W1.heap.size W1 wr) (fun i _ => n2 - (intOf i).toNat)
      case atStart => exact ⟨0, by omega, rfl, by simp, Below.refl _ _⟩
      case round =>
        obtain ⟨k, hk, rfl, hok, hbw⟩ := hrel
        have HOK := Lib.hid hok
        have HBV := Lib.hid hbw
        have HBW := Lib.hid (HBW1.out.trans (hbw.mono HBW1.out.size))
        clear hok hbw
        have hatr := HAT.out.below HBW.out HAT.out.lt
        have x0 := hatr.cell 0
        have x1 := hatr.cell 1
        have x2 := hatr.cell 2
        have x3 := hatr.cell 3
        have x4 := hatr.cell 4
        have hgl := hatr.lt
        simp only [List.getElem?_toArray, List.getElem?_cons_zero, List.getElem?_cons_succ] at x0 x1 x2 x3 x4
        clear hatr
        by_cases hlt : k < n2
        · obtain ⟨x, ht⟩ := some_get (l := G.skips) (i := k) (by rw [HN2.out]; exact hlt)
          obtain ⟨b, o, hA, hbl, y1, y2, y3⟩ := pat_get (L2.out.below (HBW.out.mono hB0)) ht
          subst hA
          have hxs := HSZ.out.skip x (List.mem_of_getElem? ht)
          have HX := Lib.hid ht
          have HPC := Lib.hid (fun w => rpat7_any x w hxs.1 hxs.2)
          have hki : (k : Int) < (n2 : Int) := by omega
          have hk0 : (0 : Int) ≤ (k : Int) := by omega
          unfold patV at HPC
          generalize str x.text = X1 at y1 HPC
          generalize str x.set = X2 at y2 HPC
          generalize x.many = X3 at y3 HPC
          clear ht hxs
          cases hq : Pr.patOk x with
          | false =>
            rw [hq] at HPC
            have HF := Lib.hid (HNO.out (fun hr => by
              have h1 := hr.skips x (List.mem_of_getElem? HX.out)
              rw [hq] at h1
              cases h1))
            clear hq
            go_wp2_with fail
            refine (HPC.out _).mono ?_
            rintro e w6 ⟨rfl, hb6⟩
            have HB6 := Lib.hid (HB.out.trans ((HBW.out.trans (hb6.mono HBW.out.size)).mono HB.out.size))
            clear hb6
            go_wp2_with fail
            go_ret
            exact ⟨by rw [HF.out]; rfl, HB6.out⟩
          | true =>
            rw [hq] at HPC
            have HQ := Lib.hid hq
            clear hq
            go_wp2_with fail
            refine (HPC.out _).mono ?_
            rintro e w6 ⟨rfl, hb6⟩
            have HB6 := Lib.hid (HBV.out.trans (hb6.mono HBV.out.size))
            clear hb6
            go_wp2_with fail
            go_roundw
            case rel => exact ⟨k + 1, by omega, by go_num, ok_take HX.out HOK.out HQ.out, HB6.out⟩
            case measure => simp [intOf]; omega
        · obtain rfl : n2 = k := by omega
          have htl : G.skips.take n2 = G.skips := by rw [← HN2.out, List.take_length]
          rw [htl] at HOK
          clear htl
          go_wp2_with fail
          clear x0 x1 x2 x3 x4 hgl
          obtain ⟨W2, hW2⟩ : ∃ W2, wr = W2 := ⟨_, rfl⟩
          rw [hW2] at HBV HBW ⊢
          have HO2 := Lib.hid (own_stay HO1.out (Stay.below HBV.out))
          have HBW2 := HBW
          have HOK2 := HOK
          clear hW2 HBW HBV HOK
          have hB2 : B ≤ W2.heap.size := Nat.le_trans hB0 HBW2.out.size
          go_loopw [6, 7] (fun v i wr => ∃ (k m : Nat) (a : Option Addr) (s : Nat), k ≤ n3 ∧ i = .int .i64 (k : Int) ∧ v = .slice a m s ∧ m = ((G.levels.take k).flatMap Rd.Lev.names).length ∧ (∀ t ∈ G.levels.take k, Lev7 t) ∧ wr.ownsRow W2.heap.size 9 1 v m (namesV ((G.levels.take k).flatMap Rd.Lev.names)) ∧ Below W2.heap.size W2 wr) (fun _ i _ => n3 - (intOf i).toNat)
          case atStart => exact ⟨0, 0, none, 0, by omega, rfl, rfl, rfl, by simp, World.ownsRow_nil _ _ _ _, Below.refl _ _⟩
          case round =>
            obtain ⟨k, m, a3, s3, hk, rfl, rfl, hm, hok, hown, hbw⟩ := hrel
            have HOK := Lib.hid hok
            have HO := Lib.hid hown
            have HM := Lib.hid hm
            have HBV := Lib.hid hbw
            have hsz := hbw.size
            have HBW := Lib.hid (HBW2.out.trans (hbw.mono HBW2.out.size))
            clear hok hbw hown hm
            have hatr := HAT.out.below HBW.out HAT.out.lt
            have x0 := hatr.cell 0
            have x1 := hatr.cell 1
            have x2 := hatr.cell 2
            have x3 := hatr.cell 3
            have x4 := hatr.cell 4
            have hgl := hatr.lt
            simp only [List.getElem?_toArray, List.getElem?_cons_zero, List.getElem?_cons_succ] at x0 x1 x2 x3 x4
            clear hatr
            by_cases hlt : k < n3
            · obtain ⟨x, ht⟩ := some_get (l := pl) (i := k) (by rw [HPL.out]; exact hlt)
              obtain ⟨b, o, hA, hbl, y0, y1⟩ := lev_get9 (L3.out.below (HBW.out.mono hB0)) ht
              subst hA
              obtain ⟨henc, A', cap', hv1, hv2'⟩ := J3.out x (List.mem_of_getElem? ht)
              have hv2 := hv2'.below (HBW.out.mono hB0)
              rw [hv1] at y1
              have hlk : G.levels[k]? = some x.1 := by rw [← HQ3.out, List.getElem?_map, ht]; rfl
              have HX := Lib.hid hlk
              have HENC := Lib.hid henc
              have hle := lvl_len G (k + 1)
              have htk := lvl_take hlk
              rw [htk, List.length_append, ← HM.out] at hle
              have hle2 := Nat.le_trans hle HN.out
              have HNV := Lib.hid (show namesV ((G.levels.take (k + 1)).flatMap Rd.Lev.names) = namesV ((G.levels.take k).flatMap Rd.Lev.names) ++ namesV x.1.names by rw [htk]; simp [namesV])
              have HML := Lib.hid (show ((G.levels.take (k + 1)).flatMap Rd.Lev.names).length = m + x.1.names.length by rw [htk, List.length_append, ← HM.out])
              have hlies : ∀ ob, Lies (wr.alloc ob) A' (namesV x.1.names) := fun ob j u hu => by
                have hne : namesV x.1.names ≠ [] := fun e => by rw [e] at hu; simp at hu
                obtain ⟨b', o', rfl, hb', hc'⟩ := hv2.ex hne
                refine ⟨_, rfl, ?_⟩
                have := (((Below.refl wr.heap.size wr).alloc (Nat.le_refl _) ob).cell (p := ⟨b', o' + j, none⟩) (by show b' < _; have := HBW.out.size; omega)).trans (hc' j u hu)
                rw [Go.WideShapes.add_plain]; exact this
              have hone : ∀ u ∈ namesV x.1.names, u.oneCell' = true := fun u hu => by
                simp only [namesV, List.mem_map] at hu; obtain ⟨_, _, rfl⟩ := hu; rfl
              have hlen : (namesV x.1.names).length = x.1.names.length * 1 := by simp [namesV]
              have HEMP := Lib.hid (show x.1.names ≠ [] ↔ x.1.names.length ≠ 0 by rw [Ne, Ne, List.length_eq_zero_iff])
              generalize namesV x.1.names = NV at HNV hlies hone hlen
              obtain ⟨q, hq⟩ : ∃ q, x.1.names.length = q := ⟨_, rfl⟩
              rw [hq] at HML hle2 hlen y1 HEMP
              obtain ⟨X0, hX0⟩ : ∃ X0, x.2.2 = X0 := ⟨_, rfl⟩
              rw [hX0] at y0 HENC
              have HLI := Lib.hid hlies
              have HON := Lib.hid hone
              have HLE := Lib.hid hlen
              have hki : (k : Int) < (n3 : Int) := by omega
              have hk0 : (0 : Int) ≤ (k : Int) := by omega
              have hc3 : m + q ≤ maxLen := by unfold maxLen; omega
              have hc4 : (m + q) * 16 ≤ 140737488355328 := by omega
              have hatl := At.new wr 124 #[.int .i64 X0, .slice A' q cap']
              clear ht henc hv1 hv2 hv2' hlk hle htk hlies hone hlen hq hX0
              go_wp2_with (at_builtin; refine wpList_append_own3 _ rfl _ _ 30 rfl W2.heap.size 9 i0 _ 1 16 Tryz.underlying30 hi hz0 hz1 hz2 rfl (by decide) _ _ _ rfl (HO.out.alloc (.cells #[.int .i64 X0, .slice A' q cap'] 124)) A' q cap' NV rfl HLE.out (HLI.out _) HON.out hc3 hc4 (by simp; omega) ?_)
              intro v' w5 hown' hg5 _
              obtain ⟨a7, s7, rfl⟩ := own_form hown'
              have hat5 := hatl.grown hg5 (fun e => own_apart (HO.out.alloc (.cells #[.int .i64 X0, .slice A' q cap'] 124)) hatl (by decide) e.symm)
              have HN5 := Lib.hid (show w5.ownsRow W2.heap.size 9 1 (.slice a7 (m + q) s7) (m + q) (namesV ((G.levels.take (k + 1)).flatMap Rd.Lev.names)) by rw [HNV.out]; exact hown')
              have HB5 := Lib.hid (Below.grown (HBV.out.alloc hsz (.cells #[.int .i64 X0, .slice A' q cap'] 124)) hg5 (by simp; omega) (fun j hj => (own_lt HO.out j hj).1))
              have u0 := hat5.cell 0
              have u1 := hat5.cell 1
              have ul := hat5.lt
              simp only [List.getElem?_toArray, List.getElem?_cons_zero, List.getElem?_cons_succ] at u0 u1
              clear hown' hg5 hat5 hatl x0 x1 x2 x3 x4 y0 y1
              have HBF := Lib.hid (HB.out.trans ((HBW2.out.trans (HB5.out.mono HBW2.out.size)).mono HB.out.size))
              have hE : (1 ≤ X0 ∧ X0 ≤ 3 ∧ q ≠ 0) ↔ Lev7 x.1 := by
                have e1 := HENC.out
                unfold encA at e1
                unfold Lev7
                rw [HEMP.out]
                split at e1 <;> omega
              have HE := Lib.hid hE
              clear hE
              by_cases g1 : X0 < 1
              · have HF := Lib.hid (HNO.out (fun hr => by have h1 := HE.out.2 (right_lev hr (List.mem_of_getElem? HX.out)); omega))
                go_wp2_with fail
                go_ret
                exact ⟨by rw [HF.out]; rfl, HBF.out⟩
              · by_cases g2 : 3 < X0
                · have HF := Lib.hid (HNO.out (fun hr => by have h1 := HE.out.2 (right_lev hr (List.mem_of_getElem? HX.out)); omega))
                  go_wp2_with fail
                  go_ret
                  exact ⟨by rw [HF.out]; rfl, HBF.out⟩
                · by_cases g3 : q = 0
                  · have HF := Lib.hid (HNO.out (fun hr => by have h1 := HE.out.2 (right_lev hr (List.mem_of_getElem? HX.out)); omega))
                    have g3' : ((q : Int) == 0) = true := by rw [beq_iff_eq]; omega
                    have g3'' : (q == 0) = true := by rw [beq_iff_eq]; omega
                    clear g3
                    go_wp2_with fail
                    go_ret
                    exact ⟨by rw [HF.out]; rfl, HBF.out⟩
                  · have g3' : ((q : Int) == 0) = false := by rw [beq_eq_false_iff_ne]; omega
                    have g3'' : (q == 0) = false := by rw [beq_eq_false_iff_ne]; omega
                    have HQ := Lib.hid (HE.out.1 ⟨by omega, by omega, g3⟩)
                    clear g3
                    go_wp2_with fail
                    go_roundw
                    case rel => exact ⟨k + 1, m + q, a7, s7, by omega, by go_num, rfl, HML.out.symm, ok_take HX.out HOK.out HQ.out, HN5.out, HB5.out⟩
                    case measure => simp [intOf]; omega
            · obtain rfl : n3 = k := by omega
              have htl : G.levels.take n3 = G.levels := by rw [← HN3.out, List.take_length]
              rw [htl] at HOK HO HM
              clear htl
              go_wp2_with fail
              clear x0 x1 x2 x3 x4 hgl hsz
              obtain ⟨W3, hW3⟩ : ∃ W3, wr = W3 := ⟨_, rfl⟩
              rw [hW3] at HBV HBW HO ⊢
              have HO3 := Lib.hid (own_stay HO2.out (Stay.below HBV.out))
              have HBW3 := HBW
              have HOK3 := HOK
              have HL3 := HO
              clear hW3 HBW HBV HOK HO
              have hB3 : B ≤ W3.heap.size := Nat.le_trans hB0 HBW3.out.size
              go_loopw [9] (fun i wr => ∃ (k : Nat), k ≤ n4 ∧ i = .int .i64 (k : Int) ∧ (∀ t ∈ G.rules.take k, Pr.ruleOk t = true) ∧ Below W3.heap.size W3 wr) (fun i _ => n4 - (intOf i).toNat)
              case atStart => exact ⟨0, by omega, rfl, by simp, Below.refl _ _⟩
              case round =>
                obtain ⟨k, hk, rfl, hok, hbw⟩ := hrel
                have HOK := Lib.hid hok
                have HBV := Lib.hid hbw
                have hsz := hbw.size
                have HBW := Lib.hid (HBW3.out.trans (hbw.mono HBW3.out.size))
                clear hok hbw
                have hatr := HAT.out.below HBW.out HAT.out.lt
                have x0 := hatr.cell 0
                have x1 := hatr.cell 1
                have x2 := hatr.cell 2
                have x3 := hatr.cell 3
                have x4 := hatr.cell 4
                have hgl := hatr.lt
                simp only [List.getElem?_toArray, List.getElem?_cons_zero, List.getElem?_cons_succ] at x0 x1 x2 x3 x4
                clear hatr
                by_cases hlt : k < n4
                · obtain ⟨x, ht⟩ := some_get (l := G.rules) (i := k) (by rw [HN4.out]; exact hlt)
                  obtain ⟨b, o, A', cap', hA, hbl, y0, y1, y2, y3, hcl⟩ := (L4.out.below (HBW.out.mono hB0)).get ht
                  subst hA
                  have HX := Lib.hid ht
                  have hxs := HSZ.out.rul x (List.mem_of_getElem? ht)
                  have HXN := Lib.hid hxs.2.2.2.2
                  have HBAD := Lib.hid (show ¬ (Pr.nameOk x.left = true ∧ x.right.length ≤ 8 ∧ (∀ n ∈ x.right, Pr.nameOk n = true) ∧ (x.prec = [] ∨ Pr.nameOk x.prec = true) ∧ Pr.actOk x.action = true) → R = false from fun hn => HNO.out (fun hr => hn (ruleOk_parts.1 (hr.each x (List.mem_of_getElem? HX.out)))))
                  have HC1 := Lib.hid (fun w => rname7_any x.left w (by omega))
                  have HC2 := Lib.hid (fun w => rname7_any x.prec w (by omega))
                  have HC3 := Lib.hid (fun w => ract7_any x.action w (by omega))
                  have hpe := isEmpty_dec x.prec
                  have hpe2 := empty_dec x.prec
                  have hatr := At.new wr 117 #[.string (str x.left), .slice A' x.right.length cap', .string (str x.prec), .string (str x.action)]
                  have hba := (Below.refl wr.heap.size wr).alloc (Nat.le_refl _) (.cells #[.string (str x.left), .slice A' x.right.length cap', .string (str x.prec), .string (str x.action)] 117)
                  obtain ⟨q, hq⟩ : ∃ q, x.right.length = q := ⟨_, rfl⟩
                  rw [hq] at y1 hatr hba HBAD
                  have HQL := Lib.hid hq
                  generalize str x.left = X0 at y0 hatr hba HC1
                  generalize str x.prec = X2 at y2 hatr hba HC2 hpe hpe2
                  generalize str x.action = X3 at y3 hatr hba HC3
                  obtain ⟨W5, hW5⟩ : ∃ W5, wr.alloc (.cells #[.string X0, .slice A' q cap', .string X2, .string X3] 117) = W5 := ⟨_, rfl⟩
                  have HCL := Lib.hid (hcl.below (hba.mono (Nat.le_trans hB3 hsz)))
                  rw [hW5] at hatr hba HCL
                  have HW5 := Lib.hid hW5
                  obtain ⟨gr, hgr⟩ : ∃ gr, wr.heap.size = gr := ⟨_, rfl⟩
                  rw [hgr] at hatr
                  have r0 := hatr.cell 0
                  have r1 := hatr.cell 1
                  have r2 := hatr.cell 2
                  have r3 := hatr.cell 3
                  have rl := hatr.lt
                  simp only [List.getElem?_toArray, List.getElem?_cons_zero, List.getElem?_cons_succ] at r0 r1 r2 r3
                  have HATR := Lib.hid hatr
                  have HB5 := Lib.hid (HBV.out.trans (hba.mono hsz))
                  have HGR := Lib.hid hgr
                  have HBF := Lib.hid (HB.out.trans ((HBW3.out.trans (HB5.out.mono HBW3.out.size)).mono HB.out.size))
                  have hki : (k : Int) < (n4 : Int) := by omega
                  have hk0 : (0 : Int) ≤ (k : Int) := by omega
                  rw [← hW5, ← hgr] at r0 r1 r2 r3 rl
                  have hx8 : q ≤ 140737488355328 := by rw [← hq]; exact hxs.2.2.2.1
                  clear ht hxs hatr hba hcl hq hW5 hgr
                  cases hq0 : Pr.nameOk x.left with
                  | false =>
                    have HF := Lib.hid (HBAD.out (fun hr => by rw [hq0] at hr; exact absurd hr.1 (by decide)))
                    rw [hq0] at HC1
                    clear hq0
                    go_wp2_with fail
                    refine (HC1.out _).mono ?_
                    rintro e w6 ⟨rfl, rfl⟩
                    go_wp2_with fail
                    rw [HW5.out]
                    go_ret
                    exact ⟨by rw [HF.out]; rfl, HBF.out⟩
                  | true =>
                    have HQ0 := Lib.hid hq0
                    rw [hq0] at HC1
                    clear hq0
                    by_cases h8 : 8 < q
                    · have HF := Lib.hid (HBAD.out (fun hr => by omega))
                      have g8 : (8 : Int) < (q : Int) := by omega
                      clear h8
                      go_wp2_with fail
                      refine (HC1.out _).mono ?_
                      rintro e w6 ⟨rfl, rfl⟩
                      go_wp2_with fail
                      rw [HW5.out]
                      go_ret
                      exact ⟨by rw [HF.out]; rfl, HBF.out⟩
                    · have g8 : ¬ (8 : Int) < (q : Int) := by omega
                      have HQ8 := Lib.hid (show q ≤ 8 by omega)
                      clear h8
                      have hprec : (x.prec = [] ∨ Pr.nameOk x.prec = true) ∨ (x.prec ≠ [] ∧ Pr.nameOk x.prec = false) := by
                        by_cases h : x.prec = []
                        · exact .inl (.inl h)
                        · cases h2 : Pr.nameOk x.prec with
                          | true => exact .inl (.inr rfl)
                          | false => exact .inr ⟨h, rfl⟩
                      rcases hprec with hpr | ⟨hp1, hp2⟩
                      rotate_left
                      · have HF := Lib.hid (HBAD.out (fun hr => by
                          rcases hr.2.2.2.1 with h | h
                          · exact hp1 h
                          · rw [hp2] at h; cases h))
                        rw [decide_eq_false hp1] at hpe hpe2
                        rw [hp2] at HC2
                        clear hp1 hp2
                        go_wp2_with fail
                        refine (HC1.out _).mono ?_
                        rintro e w6 ⟨rfl, rfl⟩
                        go_wp2_with fail
                        refine (HC2.out _).mono ?_
                        rintro e w6 ⟨rfl, rfl⟩
                        go_wp2_with fail
                        rw [HW5.out]
                        go_ret
                        exact ⟨by rw [HF.out]; rfl, HBF.out⟩
                      · have HPR := Lib.hid hpr
                        cases hqa : Pr.actOk x.action with
                        | false =>
                          have HF := Lib.hid (HBAD.out (fun hr => by have h1 := hr.2.2.2.2; rw [hqa] at h1; cases h1))
                          rw [hqa] at HC3
                          clear hqa
                          by_cases hp : x.prec = []
                          · rw [decide_eq_true hp] at hpe hpe2
                            clear hp hpr
                            go_wp2_with fail
                            refine (HC1.out _).mono ?_
                            rintro e w6 ⟨rfl, rfl⟩
                            go_wp2_with fail
                            refine (HC3.out _).mono ?_
                            rintro e w6 ⟨rfl, rfl⟩
                            go_wp2_with fail
                            rw [HW5.out]
                            go_ret
                            exact ⟨by rw [HF.out]; rfl, HBF.out⟩
                          · rw [decide_eq_false hp] at hpe hpe2
                            have hp2 : Pr.nameOk x.prec = true := by
                              rcases hpr with h | h
                              · exact absurd h hp
                              · exact h
                            rw [hp2] at HC2
                            clear hp hpr hp2
                            go_wp2_with fail
                            refine (HC1.out _).mono ?_
                            rintro e w6 ⟨rfl, rfl⟩
                            go_wp2_with fail
                            refine (HC2.out _).mono ?_
                            rintro e w6 ⟨rfl, rfl⟩
                            go_wp2_with fail
                            refine (HC3.out _).mono ?_
                            rintro e w6 ⟨rfl, rfl⟩
                            go_wp2_with fail
                            rw [HW5.out]
                            go_ret
                            exact ⟨by rw [HF.out]; rfl, HBF.out⟩
                        | true =>
                          have HQA := Lib.hid hqa
                          rw [hqa] at HC3
                          clear hqa
                          by_cases hp : x.prec = []
                          · rw [decide_eq_true hp] at hpe hpe2
                            clear hp hpr
                            go_wp2_with fail
                            refine (HC1.out _).mono ?_
                            rintro e w6 ⟨rfl, rfl⟩
                            go_wp2_with fail
                            refine (HC3.out _).mono ?_
                            rintro e w6 ⟨rfl, rfl⟩
                            go_wp2_with fail
                            rw [HW5.out]
                            clear r0 r1 r2 r3 rl y0 y1 y2 y3 x0 x1 x2 x3 x4
                            go_loopw [11] (fun i wr => ∃ (j : Nat), j ≤ q ∧ i = .int .i64 (j : Int) ∧ (∀ t ∈ x.right.take j, Pr.nameOk t = true) ∧ wr = W5) (fun i _ => q - (intOf i).toNat)
                            case atStart => exact ⟨0, by omega, rfl, by simp, rfl⟩
                            case round =>
                              obtain ⟨j, hj, rfl, hok, rfl⟩ := hrel
                              have HOJ := Lib.hid hok
                              have hatr := HATR.out
                              rw [← HGR.out] at hatr
                              have r1 := hatr.cell 1
                              have rl := hatr.lt
                              simp only [List.getElem?_toArray, List.getElem?_cons_zero, List.getElem?_cons_succ] at r1
                              clear hok hatr
                              by_cases hjl : j < q
                              · obtain ⟨y, hy⟩ := some_get (l := x.right) (i := j) (by rw [HQL.out]; exact hjl)
                                obtain ⟨b5, o5, hA5, hb5, z0⟩ := cl_get7 HCL.out hy
                                subst hA5
                                have HCY := Lib.hid (fun w => rname7_any y w (by have := HXN.out y (List.mem_of_getElem? hy); omega))
                                have HY := Lib.hid hy
                                generalize str y = Y0 at z0 HCY
                                have hji : (j : Int) < (q : Int) := by omega
                                have hj0 : (0 : Int) ≤ (j : Int) := by omega
                                clear hy
                                cases hqy : Pr.nameOk y with
                                | false =>
                                  have HF := Lib.hid (HBAD.out (fun hr => by have h1 := hr.2.2.1 y (List.mem_of_getElem? HY.out); rw [hqy] at h1; cases h1))
                                  rw [hqy] at HCY
                                  clear hqy
                                  go_wp2_with fail
                                  refine (HCY.out _).mono ?_
                                  rintro e w6 ⟨rfl, rfl⟩
                                  go_wp2_with fail
                                  go_ret
                                  exact ⟨by rw [HF.out]; rfl, HBF.out⟩
                                | true =>
                                  have HQY := Lib.hid hqy
                                  rw [hqy] at HCY
                                  clear hqy
                                  go_wp2_with fail
                                  refine (HCY.out _).mono ?_
                                  rintro e w6 ⟨rfl, rfl⟩
                                  go_wp2_with fail
                                  go_roundw
                                  case rel => exact ⟨j + 1, by omega, by go_num, ok_take HY.out HOJ.out HQY.out, trivial⟩
                                  case measure => simp [intOf]; omega
                              · obtain rfl : q = j := by omega
                                have hall : x.right.take q = x.right := by rw [← HQL.out, List.take_length]
                                rw [hall] at HOJ
                                have HQQ := Lib.hid (ruleOk_parts.2 ⟨HQ0.out, by rw [HQL.out]; exact HQ8.out, HOJ.out, HPR.out, HQA.out⟩)
                                clear hall
                                go_wp2_with fail
                                go_roundw
                                case rel => exact ⟨k + 1, by omega, by go_num, ok_take HX.out HOK.out HQQ.out, HB5.out⟩
                                case measure => simp [intOf]; omega
                          · rw [decide_eq_false hp] at hpe hpe2
                            have hp2 : Pr.nameOk x.prec = true := by
                              rcases hpr with h | h
                              · exact absurd h hp
                              · exact h
                            rw [hp2] at HC2
                            clear hp hpr hp2
                            go_wp2_with fail
                            refine (HC1.out _).mono ?_
                            rintro e w6 ⟨rfl, rfl⟩
                            go_wp2_with fail
                            refine (HC2.out _).mono ?_
                            rintro e w6 ⟨rfl, rfl⟩
                            go_wp2_with fail
                            refine (HC3.out _).mono ?_
                            rintro e w6 ⟨rfl, rfl⟩
                            go_wp2_with fail
                            rw [HW5.out]
                            clear r0 r1 r2 r3 rl y0 y1 y2 y3 x0 x1 x2 x3 x4
                            go_loopw [11] (fun i wr => ∃ (j : Nat), j ≤ q ∧ i = .int .i64 (j : Int) ∧ (∀ t ∈ x.right.take j, Pr.nameOk t = true) ∧ wr = W5) (fun i _ => q - (intOf i).toNat)
                            case atStart => exact ⟨0, by omega, rfl, by simp, rfl⟩
                            case round =>
                              obtain ⟨j, hj, rfl, hok, rfl⟩ := hrel
                              have HOJ := Lib.hid hok
                              have hatr := HATR.out
                              rw [← HGR.out] at hatr
                              have r1 := hatr.cell 1
                              have rl := hatr.lt
                              simp only [List.getElem?_toArray, List.getElem?_cons_zero, List.getElem?_cons_succ] at r1
                              clear hok hatr
                              by_cases hjl : j < q
                              · obtain ⟨y, hy⟩ := some_get (l := x.right) (i := j) (by rw [HQL.out]; exact hjl)
                                obtain ⟨b5, o5, hA5, hb5, z0⟩ := cl_get7 HCL.out hy
                                subst hA5
                                have HCY := Lib.hid (fun w => rname7_any y w (by have := HXN.out y (List.mem_of_getElem? hy); omega))
                                have HY := Lib.hid hy
                                generalize str y = Y0 at z0 HCY
                                have hji : (j : Int) < (q : Int) := by omega
                                have hj0 : (0 : Int) ≤ (j : Int) := by omega
                                clear hy
                                cases hqy : Pr.nameOk y with
                                | false =>
                                  have HF := Lib.hid (HBAD.out (fun hr => by have h1 := hr.2.2.1 y (List.mem_of_getElem? HY.out); rw [hqy] at h1; cases h1))
                                  rw [hqy] at HCY
                                  clear hqy
                                  go_wp2_with fail
                                  refine (HCY.out _).mono ?_
                                  rintro e w6 ⟨rfl, rfl⟩
                                  go_wp2_with fail
                                  go_ret
                                  exact ⟨by rw [HF.out]; rfl, HBF.out⟩
                                | true =>
                                  have HQY := Lib.hid hqy
                                  rw [hqy] at HCY
                                  clear hqy
                                  go_wp2_with fail
                                  refine (HCY.out _).mono ?_
                                  rintro e w6 ⟨rfl, rfl⟩
                                  go_wp2_with fail
                                  go_roundw
                                  case rel => exact ⟨j + 1, by omega, by go_num, ok_take HY.out HOJ.out HQY.out, trivial⟩
                                  case measure => simp [intOf]; omega
                              · obtain rfl : q = j := by omega
                                have hall : x.right.take q = x.right := by rw [← HQL.out, List.take_length]
                                rw [hall] at HOJ
                                have HQQ := Lib.hid (ruleOk_parts.2 ⟨HQ0.out, by rw [HQL.out]; exact HQ8.out, HOJ.out, HPR.out, HQA.out⟩)
                                clear hall
                                go_wp2_with fail
                                go_roundw
                                case rel => exact ⟨k + 1, by omega, by go_num, ok_take HX.out HOK.out HQQ.out, HB5.out⟩
                                case measure => simp [intOf]; omega
                · obtain rfl : n4 = k := by omega
                  have htl : G.rules.take n4 = G.rules := by rw [← HN4.out, List.take_length]
                  rw [htl] at HOK
                  have HT := Lib.hid (own_stay HO3.out (Stay.below HBV.out))
                  have HL := Lib.hid (own_stay HL3.out (Stay.below HBV.out))
                  have HMM := HM.out
                  have HBF := Lib.hid (HB.out.trans (HBW.out.mono HB.out.size))
                  have HC1 := Lib.hid (ronce7_any (G.toks.map Rd.Tok.name) a s wr.heap.size wr (Lie.own HT.out).cl (fun y hy => by
                    obtain ⟨t, ht, rfl⟩ := List.mem_map.1 hy
                    exact (HSZ.out.tok t ht).1) (by rw [List.length_map, HN1.out]; omega))
                  rw [List.length_map, HN1.out] at HC1
                  have HC2 := Lib.hid (fun d => ronce7_any (Pr.lvl G) a3 s3 wr.heap.size (wr.drewN d) (Lie.drewN (Lie.own HL.out) d).cl (fun y hy => by
                    unfold Pr.lvl at hy
                    obtain ⟨v, hv, hyv⟩ := List.mem_flatMap.1 hy
                    exact (HSZ.out.lev v hv).2 y hyv) (by have := HN.out; omega))
                  rw [show (Pr.lvl G).length = m from HMM.symm] at HC2
                  clear htl HMM
                  cases hq1 : Pr.onceB (G.toks.map Rd.Tok.name) with
                  | false =>
                    have HF := Lib.hid (HNO.out (fun hr => by have h1 := (right_once hr).1; rw [hq1] at h1; cases h1))
                    rw [hq1] at HC1
                    clear hq1
                    go_wp2_with fail
                    refine HC1.out.mono ?_
                    rintro e w6 ⟨rfl, d, rfl⟩
                    go_wp2_with fail
                    go_ret
                    exact ⟨by rw [HF.out]; rfl, below_drewN HBF.out _⟩
                  | true =>
                    have HQ1 := Lib.hid hq1
                    rw [hq1] at HC1
                    clear hq1
                    go_wp2_with fail
                    refine HC1.out.mono ?_
                    rintro e w6 ⟨rfl, d, rfl⟩
                    go_wp2_with fail
                    refine (HC2.out d).mono ?_
                    rintro e w6 ⟨rfl, d2, rfl⟩
                    have HRES := Lib.hid (show Pr.onceB (Pr.lvl G) = R by
                      cases hq2 : Pr.onceB (Pr.lvl G) with
                      | false => exact (HNO.out (fun hr => by have h1 := (right_once hr).2; rw [hq2] at h1; cases h1)).symm
                      | true => exact (HYES.out (right_of7 (by rw [HN1.out]; exact h1) (by rw [HN2.out]; exact h2) (by rw [HN3.out]; exact h3) (by rw [HN4.out]; exact ⟨h4, h5⟩) HS6.out HOK1.out HOK2.out HOK3.out HOK.out HQ1.out hq2)).symm)
                    rw [HRES.out]
                    go_wp2_with fail
                    go_ret
                    exact ⟨rfl, below_drewN HBF.out _⟩
end Go.Proofs.YtdhhkancbgealaaGreat
