/-
  The walk of names.wrong.
-/
import Derived.Test.YtpgmapjjjpcmfaaGreatDoorNmD
import Derived.Test.YtpgmapjjjpcmfaaGreatDoorNmP
import Derived.BigQuiet
import Derived.Deep.QuietTactic
namespace Go.Proofs.YtpgmapjjjpcmfaaGreatDoor
open Go.RowKit
open Lx
set_option linter.unusedVariables false
set_option linter.unusedSimpArgs false
set_option maxRecDepth 100000

namespace Nm
theorem find?_hit {α : Type} {p : α → Bool} : ∀ {l : List α} {k : Nat} {x : α}, l[k]? = some x → p x = true → (∀ y ∈ l.take k, p y = false) → l.find? p = some x
  | [], k, x, h, _, _ => by simp at h
  | a :: r, 0, x, h, hp, _ => by simp at h; subst h; simp [hp]
  | a :: r, k + 1, x, h, hp, hn => by
    have h1 : p a = false := hn a (by simp)
    rw [List.find?_cons_of_neg (by simp [h1])]
    exact find?_hit (l := r) (k := k) (by simpa using h) hp (fun y hy => hn y (by simp [hy]))
theorem findSome?_hit {α β : Type} {f : α → Option β} {b : β} : ∀ {l : List α} {k : Nat} {x : α}, l[k]? = some x → f x = some b → (∀ y ∈ l.take k, f y = none) → l.findSome? f = some b
  | [], k, x, h, _, _ => by simp at h
  | a :: r, 0, x, h, hp, _ => by simp at h; subst h; simp [List.findSome?, hp]
  | a :: r, k + 1, x, h, hp, hn => by
    have h1 : f a = none := hn a (by simp)
    rw [List.findSome?_cons, h1]
    exact findSome?_hit (l := r) (k := k) (by simpa using h) hp (fun y hy => hn y (by simp [hy]))
theorem find?_all {α : Type} {p : α → Bool} {l : List α} (h : ∀ y ∈ l, p y = false) : l.find? p = none := by
  rw [List.find?_eq_none]; intro y hy; rw [h y hy]; decide
theorem wrong_tok {g : Rd.G} {k : Nat} {t : Rd.Tok} (hk : g.toks[k]? = some t) (ht : wrongTok g t = true) (hn : ∀ y ∈ g.toks.take k, wrongTok g y = false) : wrong g = (15, t.name) := by
  unfold wrong; rw [find?_hit hk ht hn]
theorem wrong_rul {g : Rd.G} {k : Nat} {r : Rd.Rule} {x : Nat × Rd.Name} (h0 : ∀ y ∈ g.toks, wrongTok g y = false) (hk : g.rules[k]? = some r) (ht : wrongRule g r = some x) (hn : ∀ y ∈ g.rules.take k, wrongRule g y = none) : wrong g = x := by
  unfold wrong; rw [find?_all h0, findSome?_hit hk ht hn]
theorem wrong_end {g : Rd.G} (h0 : ∀ y ∈ g.toks, wrongTok g y = false) (hn : ∀ y ∈ g.rules, wrongRule g y = none) : wrong g = if 0 ≤ place (vars g) g.start then (0, []) else (16, g.start) := by
  unfold wrong; rw [find?_all h0, List.findSome?_eq_none_iff.2 hn]
theorem wrongRule_name {g : Rd.G} {r : Rd.Rule} {k : Nat} {n : Rd.Name} (hk : r.right[k]? = some n) (ht : wrongName g n = true) (hn : ∀ y ∈ r.right.take k, wrongName g y = false) : wrongRule g r = some (16, n) := by
  unfold wrongRule; rw [find?_hit hk ht hn]
theorem wrongRule_prec {g : Rd.G} {r : Rd.Rule} (hn : ∀ y ∈ r.right, wrongName g y = false) : wrongRule g r = if r.prec ≠ [] ∧ level g r.prec = 0 then some (16, r.prec) else none := by
  unfold wrongRule; rw [find?_all hn]
end Nm

def wrongV (x : Nat × Rd.Name) : Value := .tuple #[.int .i64 (x.1 : Int), .string (str x.2)]

set_option maxHeartbeats 16000000 in
theorem wrong_any (v pv : Value) (G : Rd.G) (B : Nat) (w : World) (h : GramC w B v G) (hp : SymC w B pv (Nm.terms G) (Nm.vars G)) (hB : B ≤ w.heap.size) (hn1 : G.toks.length ≤ 1000) (hn4 : G.rules.length ≤ 1000) (hn3 : G.levels.length ≤ 1000) (hlv : ∀ v ∈ G.levels, v.names.length ≤ 140737488355328) (hrr : ∀ r ∈ G.rules, r.right.length ≤ 1000) :
    Calls Tryz.prog 50 #[v, pv] w fun e w' => e = .returned (wrongV (Nm.wrong G)) ∧ Below w.heap.size w w' := by
  have hvl : (Nm.vars G).length ≤ 1000 := Nat.le_trans (by have := Nm.varsOf_len (G.rules.map Rd.Rule.left); unfold Nm.vars; simpa using this) hn4
  have htl : (Nm.terms G).length ≤ 1001 := by unfold Nm.terms; simp; omega
  have HSY := Lib.hid (show ∀ (n : Rd.Name) (w' : World), Below w.heap.size w w' → Calls Tryz.prog 46 #[pv, .string (str n)] w' fun e w'' => e = .returned (.int .i64 (Nm.symG G n)) ∧ Below w'.heap.size w' w'' from
    fun n w' hw' => sym_any pv _ _ n B w' (hp.below (hw'.mono hB)) (Nat.le_trans hB hw'.size) (by omega) (by omega))
  have HLV := Lib.hid (show ∀ (n : Rd.Name) (w' : World), Below w.heap.size w w' → Calls Tryz.prog 80 #[v, .string (str n)] w' fun e w'' => e = .returned (.int .i64 (Nm.level G n)) ∧ Below w'.heap.size w' w'' from
    fun n w' hw' => nlevel_any v G n B w' (h.below (hw'.mono hB)) (Nat.le_trans hB hw'.size) (by omega) hlv)
  obtain ⟨A1, c1, A2, c2, A3, c3, A4, c4, ql, rfl, k1, k3, k4, k5, k6⟩ := h.parts
  have hru : RulsC w B A4 G.rules := ⟨ql, k4, k5, k6⟩
  obtain ⟨B1, d1, B2, d2, B3, m3, d3, B4, m4, d4, B5, m5, d5, B6, m6, d6, rfl, j1, j2⟩ := hp.ex
  have HFV := Lib.hid (show ∀ (n : Rd.Name) (w' : World), Below w.heap.size w w' → Calls Tryz.prog 77 #[.slice B2 (Nm.vars G).length d2, .string (str n), .func (.func 78) #[] #[]] w' fun e w'' => e = .returned (.int .i64 (Nm.place (Nm.vars G) n)) ∧ Below w'.heap.size w' w'' from
    fun n w' hw' => findS_any _ n B2 d2 B w' (j2.below (hw'.mono hB)) (Nat.le_trans hB hw'.size) (by omega))
  have HPR := Lib.hid (show ∀ n, -1 ≤ Nm.place (Nm.vars G) n from fun n => Nm.find_ge _)
  have HSR := Lib.hid (show ∀ n, -1 ≤ Nm.symG G n from fun n => by
    have := Nm.sym_range (T := Nm.terms G) (V := Nm.vars G) n
    unfold Nm.symG; omega)
  have HLR := Lib.hid (show ∀ n, 0 ≤ Nm.level G n from fun n => (Nm.level_range n).1)
  have HEQ := Lib.hid (fun (n : Rd.Name) => isEmpty_dec n)
  obtain ⟨n1, hn1'⟩ : ∃ n, G.toks.length = n := ⟨_, rfl⟩
  obtain ⟨n2, hn2'⟩ : ∃ n, G.skips.length = n := ⟨_, rfl⟩
  obtain ⟨n3, hn3'⟩ : ∃ n, G.levels.length = n := ⟨_, rfl⟩
  obtain ⟨n4, hn4'⟩ : ∃ n, G.rules.length = n := ⟨_, rfl⟩
  obtain ⟨ST, hST⟩ : ∃ S, str G.start = S := ⟨_, rfl⟩
  rw [hn1'] at hn1 HLV ⊢
  rw [hn4'] at hn4 HLV ⊢
  rw [hn2', hn3', hST] at HLV ⊢
  have HN1 := Lib.hid hn1'
  have HN4 := Lib.hid hn4'
  have HST := Lib.hid hST
  have HRR := Lib.hid hrr
  obtain ⟨ANS, hANS⟩ : ∃ A, wrongV (Nm.wrong G) = A := ⟨_, rfl⟩
  have HANS := Lib.hid hANS
  rw [hANS]
  generalize (Nm.terms G).length = t1 at HSY ⊢
  generalize (Nm.vars G).length = t2 at HSY HFV ⊢
  have HK := Lib.hid k1
  have HR := Lib.hid hru
  have hgg := At.new w 27 #[.slice A1 n1 c1, .slice A2 n2 c2, .slice A3 n3 c3, .string ST, .slice A4 n4 c4]
  have b1 := (Below.refl w.heap.size w).alloc (Nat.le_refl _) (.cells #[.slice A1 n1 c1, .slice A2 n2 c2, .slice A3 n3 c3, .string ST, .slice A4 n4 c4] 27)
  obtain ⟨w1, hw1⟩ : ∃ w1, w.alloc (.cells #[.slice A1 n1 c1, .slice A2 n2 c2, .slice A3 n3 c3, .string ST, .slice A4 n4 c4] 27) = w1 := ⟨_, rfl⟩
  have hs1 : w1.heap.size = w.heap.size + 1 := by rw [← hw1]; simp
  rw [hw1] at hgg b1
  have hgp := At.new w1 45 #[.slice B1 t1 d1, .slice B2 t2 d2, .slice B3 m3 d3, .slice B4 m4 d4, .slice B5 m5 d5, .slice B6 m6 d6]
  have hgg2 := hgg.alloc (.cells #[.slice B1 t1 d1, .slice B2 t2 d2, .slice B3 m3 d3, .slice B4 m4 d4, .slice B5 m5 d5, .slice B6 m6 d6] 45)
  have b2 := b1.alloc b1.size (.cells #[.slice B1 t1 d1, .slice B2 t2 d2, .slice B3 m3 d3, .slice B4 m4 d4, .slice B5 m5 d5, .slice B6 m6 d6] 45)
  obtain ⟨W0, hW0⟩ : ∃ W0, w1.alloc (.cells #[.slice B1 t1 d1, .slice B2 t2 d2, .slice B3 m3 d3, .slice B4 m4 d4, .slice B5 m5 d5, .slice B6 m6 d6] 45) = W0 := ⟨_, rfl⟩
  rw [hW0] at hgp hgg2 b2
  have HWW := Lib.hid (show (w.alloc (.cells #[.slice A1 n1 c1, .slice A2 n2 c2, .slice A3 n3 c3, .string ST, .slice A4 n4 c4] 27)).alloc (.cells #[.slice B1 t1 d1, .slice B2 t2 d2, .slice B3 m3 d3, .slice B4 m4 d4, .slice B5 m5 d5, .slice B6 m6 d6] 45) = W0 by rw [hw1, hW0])
  obtain ⟨g0, hg0⟩ : ∃ g, w.heap.size = g := ⟨_, rfl⟩
  obtain ⟨g1, hg1⟩ : ∃ g, g0 + 1 = g := ⟨_, rfl⟩
  rw [hs1] at hgp
  rw [hg0] at hgp hgg2
  rw [hg1] at hgp
  have HGG := Lib.hid hgg2
  have HGP := Lib.hid hgp
  have HB0 := Lib.hid b2
  have HG := Lib.hid (show w.heap.size = g0 ∧ g0 + 1 = g1 from ⟨hg0, hg1⟩)
  clear h hp k1 k3 k4 k5 k6 j1 j2 hru hn1' hn2' hn3' hn4' hST hANS hgg hgg2 hgp b1 b2 hw1 hW0 hs1 hg0 hg1 hlv hrr
  go_enter Tryz.func50, Tryz.ntmps50
  go_wp2_with fail
  rw [HWW.out]
  obtain ⟨hg0, hg1⟩ := HG.out
  rw [hg0, hg1]
  clear hg0 hg1
  go_loopw [15] (fun i wr => ∃ k : Nat, k ≤ n1 ∧ i = .int .i64 (k : Int) ∧ (∀ y ∈ G.toks.take k, Nm.wrongTok G y = false) ∧ Below W0.heap.size W0 wr) (fun i _ => n1 - (intOf i).toNat)
  case atStart => exact ⟨0, by omega, rfl, by simp, Below.refl _ _⟩
  case round =>
    obtain ⟨k, hk, rfl, hno, hb⟩ := hrel
    have HO := Lib.hid hno
    have HBR := Lib.hid hb
    have HBW := Lib.hid (HB0.out.trans (hb.mono HB0.out.size))
    have hat := HGP.out.below hb HGP.out.lt
    have hlt3 := hat.lt
    have p1 := hat.cell 1
    simp only [List.getElem?_toArray, List.getElem?_cons_zero, List.getElem?_cons_succ] at p1
    clear hno hb hat
    by_cases hlt : k < n1
    · obtain ⟨x, ht⟩ := some_get (l := G.toks) (i := k) (by rw [HN1.out]; exact hlt)
      obtain ⟨b, o, hA, hbl, y0, y1, y2, y3⟩ := tok_get (HK.out.below (HBW.out.mono hB)) ht
      subst hA
      have HT := Lib.hid ht
      have hatt := At.new wr 41 #[.string (str x.name), .string (str x.pat.text), .string (str x.pat.set), .bool x.pat.many]
      have hba := (Below.refl wr.heap.size wr).alloc (Nat.le_refl _) (.cells #[.string (str x.name), .string (str x.pat.text), .string (str x.pat.set), .bool x.pat.many] 41)
      have HFN := Lib.hid (HFV.out x.name)
      have hpr := HPR.out x.name
      generalize str x.pat.text = X1 at y1 hatt hba
      generalize str x.pat.set = X2 at y2 hatt hba
      generalize x.pat.many = X3 at y3 hatt hba
      obtain ⟨X0, hX0⟩ : ∃ X0, str x.name = X0 := ⟨_, rfl⟩
      rw [hX0] at y0 hatt hba HFN
      have HX0 := Lib.hid hX0
      have HATT := Lib.hid hatt
      have HBA := Lib.hid (HBR.out.trans (hba.mono HBR.out.size))
      have HBA2 := Lib.hid (HBW.out.trans (hba.mono HBW.out.size))
      have hki : (k : Int) < (n1 : Int) := by omega
      have hk0 : (0 : Int) ≤ (k : Int) := by omega
      by_cases hin : 0 ≤ Nm.place (Nm.vars G) x.name
      · have HW := Lib.hid (show ANS = .tuple #[.int .i64 15, .string X0] by
          rw [← HANS.out, Nm.wrong_tok HT.out (by unfold Nm.wrongTok; rw [decide_eq_true hin]) HO.out]
          unfold wrongV; rw [HX0.out]; rfl)
        generalize Nm.place (Nm.vars G) x.name = PL at HFN hpr hin
        clear ht hX0 hatt hba
        go_wp2_with fail
        refine (HFN.out _ HBA2.out).mono ?_
        rintro e w5 ⟨rfl, hb5⟩
        have hatt5 := HATT.out.below hb5 HATT.out.lt
        have r0 := hatt5.cell 0
        simp only [List.getElem?_toArray, List.getElem?_cons_zero] at r0
        have HB5 := Lib.hid (HBA2.out.trans (hb5.mono HBA2.out.size))
        have hlr := hatt5.lt
        clear hb5 hatt5 p1
        go_wp2_with fail
        go_quiet (fail)
        go_wp2_with fail
        go_ret2
        exact ⟨by rw [HW.out]; rfl, below_drewN HB5.out _⟩
      · have HWT := Lib.hid (show Nm.wrongTok G x = false by unfold Nm.wrongTok; rw [decide_eq_false hin])
        generalize Nm.place (Nm.vars G) x.name = PL at HFN hpr hin
        clear ht hX0 hatt hba
        go_wp2_with fail
        refine (HFN.out _ HBA2.out).mono ?_
        rintro e w5 ⟨rfl, hb5⟩
        have HB5 := Lib.hid (HBA.out.trans (hb5.mono HBA.out.size))
        clear hb5 p1
        go_wp2_with fail
        go_roundw
        case rel => exact ⟨k + 1, by omega, by go_num, none_take HT.out HO.out HWT.out, HB5.out⟩
        case measure => simp [intOf]; omega
    · obtain rfl : n1 = k := by omega
      have HT0 := Lib.hid (none_all HN1.out HO.out)
      have hgg1 := HGG.out.below HBR.out HGG.out.lt
      have x4 := hgg1.cell 4
      simp only [List.getElem?_toArray, List.getElem?_cons_zero, List.getElem?_cons_succ] at x4
      have hlg0 := hgg1.lt
      clear hgg1
      go_wp2_with fail
      clear x4 p1 hlg0 hlt3
      go_loopw [31] (fun i wr => ∃ k : Nat, k ≤ n4 ∧ i = .int .i64 (k : Int) ∧ (∀ y ∈ G.rules.take k, Nm.wrongRule G y = none) ∧ Below W0.heap.size W0 wr) (fun i _ => n4 - (intOf i).toNat)
      case atStart => exact ⟨0, by omega, rfl, by simp, HBR.out⟩
      case round =>
        clear HBR HBW HO hk hlt
        obtain ⟨k, hk, rfl, hno, hb⟩ := hrel
        have HO := Lib.hid hno
        have HBR := Lib.hid hb
        have HBW := Lib.hid (HB0.out.trans (hb.mono HB0.out.size))
        have hat := HGP.out.below hb HGP.out.lt
        have hgat := HGG.out.below hb HGG.out.lt
        by_cases hlt : k < n4
        · obtain ⟨x, ht⟩ := some_get (l := G.rules) (i := k) (by rw [HN4.out]; exact hlt)
          obtain ⟨b, o, A', c', hA, hbl, y0, y1, y2, y3, hcl⟩ := (HR.out.below (HBW.out.mono hB)).get ht
          subst hA
          have HT := Lib.hid ht
          have hxr := HRR.out x (List.mem_of_getElem? ht)
          have hatr := At.new wr 36 #[.string (str x.left), .slice A' x.right.length c', .string (str x.prec), .string (str x.action)]
          have hba := (Below.refl wr.heap.size wr).alloc (Nat.le_refl _) (.cells #[.string (str x.left), .slice A' x.right.length c', .string (str x.prec), .string (str x.action)] 36)
          have HLP := Lib.hid (HLV.out x.prec)
          have hlr := HLR.out x.prec
          have hpe := HEQ.out x.prec
          obtain ⟨m, hm⟩ : ∃ m, x.right.length = m := ⟨_, rfl⟩
          rw [hm] at y1 hatr hba hxr
          have HM := Lib.hid hm
          generalize str x.left = X0 at y0 hatr hba
          generalize str x.action = X3 at y3 hatr hba
          obtain ⟨X2, hX2⟩ : ∃ X2, str x.prec = X2 := ⟨_, rfl⟩
          rw [hX2] at y2 hatr hba HLP hpe
          have HX2 := Lib.hid hX2
          have hki : (k : Int) < (n4 : Int) := by omega
          have hk0 : (0 : Int) ≤ (k : Int) := by omega
          obtain ⟨W2, hW2⟩ : ∃ W2, wr.alloc (.cells #[.string X0, .slice A' m c', .string X2, .string X3] 36) = W2 := ⟨_, rfl⟩
          have hcl2 := hcl.below (hba.mono (Nat.le_trans hB HBW.out.size))
          rw [hW2] at hatr hba hcl2
          have HW2 := Lib.hid hW2
          have HCL := Lib.hid hcl2
          have HATR := Lib.hid hatr
          have HB2 := Lib.hid (HBR.out.trans (hba.mono HBR.out.size))
          have HBW2 := Lib.hid (HBW.out.trans (hba.mono HBW.out.size))
          obtain ⟨gr, hgr⟩ : ∃ gr, wr.heap.size = gr := ⟨_, rfl⟩
          rw [hgr] at HATR
          have HGR := Lib.hid hgr
          clear hno hb hat hgat ht hm hX2 hatr hba hcl hcl2 hW2 hgr
          go_wp2_with fail
          rw [HW2.out, HGR.out]
          clear y0 y1 y2 y3
          go_loopw [38] (fun i wr => ∃ q : Nat, q ≤ m ∧ i = .int .i64 (q : Int) ∧ (∀ y ∈ x.right.take q, Nm.wrongName G y = false) ∧ Below W2.heap.size W2 wr) (fun i _ => m - (intOf i).toNat)
          case atStart => exact ⟨0, by omega, rfl, by simp, Below.refl _ _⟩
          case round =>
            obtain ⟨q, hq, rfl, hnq, hb⟩ := hrel
            have HOQ := Lib.hid hnq
            have HB3 := Lib.hid (HB2.out.trans (hb.mono HB2.out.size))
            have HBW3 := Lib.hid (HBW2.out.trans (hb.mono HBW2.out.size))
            have HBQ := Lib.hid hb
            have hat := HGP.out.below HB3.out HGP.out.lt
            have hatr3 := HATR.out.below hb HATR.out.lt
            by_cases hltq : q < m
            · obtain ⟨y, hy⟩ := some_get (l := x.right) (i := q) (by rw [HM.out]; exact hltq)
              have hcl3 := HCL.out.below (hb.mono (Nat.le_trans hB HBW2.out.size))
              obtain ⟨b', o', hA', hbl', z0⟩ := cl_get hcl3 hy
              subst hA'
              have HY := Lib.hid hy
              have HSN := Lib.hid (HSY.out y)
              have hsr := HSR.out y
              obtain ⟨Y0, hY0⟩ : ∃ Y0, str y = Y0 := ⟨_, rfl⟩
              rw [hY0] at z0 HSN
              have HY0 := Lib.hid hY0
              have p0 := hat.cell 0
              have p1 := hat.cell 1
              have p2 := hat.cell 2
              have p3 := hat.cell 3
              have p4 := hat.cell 4
              have p5 := hat.cell 5
              simp only [List.getElem?_toArray, List.getElem?_cons_zero, List.getElem?_cons_succ] at p0 p1 p2 p3 p4 p5
              have hqi : (q : Int) < (m : Int) := by omega
              have hq0 : (0 : Int) ≤ (q : Int) := by omega
              by_cases hsy : 0 ≤ Nm.symG G y
              · have HWN := Lib.hid (show Nm.wrongName G y = false by unfold Nm.wrongName; rw [decide_eq_false (by omega)])
                generalize Nm.symG G y = SY at HSN hsr hsy
                have hsy2 : ¬ SY < 0 := by omega
                clear hnq hb hat hatr3 hy hcl3 hY0
                go_wp2_with fail
                refine (HSN.out _ HBW3.out).mono ?_
                rintro e w5 ⟨rfl, hb5⟩
                have HB5 := Lib.hid (HBQ.out.trans (hb5.mono HBQ.out.size))
                clear hb5 p0 p1 p2 p3 p4 p5
                go_wp2_with fail
                go_roundw
                case rel => exact ⟨q + 1, by omega, by go_num, none_take HY.out HOQ.out HWN.out, HB5.out⟩
                case measure => simp [intOf]; omega
              · have hsy2 : Nm.symG G y < 0 := by omega
                have HW := Lib.hid (show ANS = .tuple #[.int .i64 16, .string Y0] by
                  rw [← HANS.out, Nm.wrong_rul HT0.out HT.out (Nm.wrongRule_name HY.out (by unfold Nm.wrongName; rw [decide_eq_true hsy2]) HOQ.out) HO.out]
                  unfold wrongV; rw [HY0.out]; rfl)
                generalize Nm.symG G y = SY at HSN hsr hsy hsy2
                clear hnq hb hat hatr3 hy hcl3 hY0 hsy
                go_wp2_with fail
                refine (HSN.out _ HBW3.out).mono ?_
                rintro e w5 ⟨rfl, hb5⟩
                have HB5 := Lib.hid (HBW3.out.trans (hb5.mono HBW3.out.size))
                clear hb5 p0 p1 p2 p3 p4 p5
                go_wp2_with fail
                go_ret2
                exact ⟨by rw [HW.out]; rfl, HB5.out⟩
            · obtain rfl : m = q := by omega
              have HNO := Lib.hid (none_all HM.out HOQ.out)
              have hgat := HGG.out.below HB3.out HGG.out.lt
              have e0 := hgat.cell 0
              have e1 := hgat.cell 1
              have e2 := hgat.cell 2
              have e3 := hgat.cell 3
              have e4 := hgat.cell 4
              have r2 := hatr3.cell 2
              simp only [List.getElem?_toArray, List.getElem?_cons_zero, List.getElem?_cons_succ] at e0 e1 e2 e3 e4 r2
              have hlt0 := hatr3.lt
              have HATR3 := Lib.hid hatr3
              have hwp := Nm.wrongRule_prec HNO.out
              by_cases hpn : x.prec = []
              · rw [decide_eq_true hpn] at hpe
                rw [if_neg (fun h => h.1 hpn)] at hwp
                have HWP := Lib.hid hwp
                clear hnq hb hat hatr3 hgat hwp hpn
                go_wp2_with fail
                go_roundw
                case rel => exact ⟨k + 1, by omega, by go_num, fun y hy => by
                  rw [List.take_add_one, HT.out] at hy
                  rcases List.mem_append.1 hy with h1 | h1
                  · exact HO.out y h1
                  · simp at h1; subst h1; exact HWP.out, HB3.out⟩
                case measure => simp [intOf]; omega
              · rw [decide_eq_false hpn] at hpe
                by_cases hl0 : Nm.level G x.prec = 0
                · rw [if_pos ⟨hpn, hl0⟩] at hwp
                  have HW := Lib.hid (show ANS = .tuple #[.int .i64 16, .string X2] by
                    rw [← HANS.out, Nm.wrong_rul HT0.out HT.out hwp HO.out]
                    unfold wrongV; rw [HX2.out]; rfl)
                  rw [hl0] at HLP
                  clear hnq hb hat hatr3 hgat hwp hpn hl0 hlr
                  go_wp2_with fail
                  refine (HLP.out _ HBW3.out).mono ?_
                  rintro e w5 ⟨rfl, hb5⟩
                  have hatr5 := HATR3.out.below hb5 HATR3.out.lt
                  have r5 := hatr5.cell 2
                  simp only [List.getElem?_toArray, List.getElem?_cons_zero, List.getElem?_cons_succ] at r5
                  have HB5 := Lib.hid (HBW3.out.trans (hb5.mono HBW3.out.size))
                  clear hb5 hatr5 e0 e1 e2 e3 e4 r2
                  go_wp2_with fail
                  go_quiet (fail)
                  go_wp2_with fail
                  go_ret2
                  exact ⟨by rw [HW.out]; rfl, below_drewN HB5.out _⟩
                · rw [if_neg (fun h => hl0 h.2)] at hwp
                  have HWP := Lib.hid hwp
                  have hl1 : (Nm.level G x.prec == 0) = false := beq_eq_false_iff_ne.2 hl0
                  generalize Nm.level G x.prec = LP at HLP hl1 hlr
                  clear hnq hb hat hatr3 hgat hwp hpn hl0
                  go_wp2_with fail
                  refine (HLP.out _ HBW3.out).mono ?_
                  rintro e w5 ⟨rfl, hb5⟩
                  have HB5 := Lib.hid (HB3.out.trans (hb5.mono HB3.out.size))
                  clear hb5 e0 e1 e2 e3 e4 r2
                  go_wp2_with fail
                  go_roundw
                  case rel => exact ⟨k + 1, by omega, by go_num, fun y hy => by
                    rw [List.take_add_one, HT.out] at hy
                    rcases List.mem_append.1 hy with h1 | h1
                    · exact HO.out y h1
                    · simp at h1; subst h1; exact HWP.out, HB5.out⟩
                  case measure => simp [intOf]; omega
        · obtain rfl : n4 = k := by omega
          have hall : ∀ y ∈ G.rules, Nm.wrongRule G y = none := by
            have := HO.out
            rwa [← HN4.out, List.take_length] at this
          have hwe := Nm.wrong_end HT0.out hall
          have p1 := hat.cell 1
          have e3 := hgat.cell 3
          simp only [List.getElem?_toArray, List.getElem?_cons_zero, List.getElem?_cons_succ] at p1 e3
          have HFN := Lib.hid (HFV.out G.start)
          rw [HST.out] at HFN
          have hpr := HPR.out G.start
          have HGAT := Lib.hid hgat
          by_cases hin : 0 ≤ Nm.place (Nm.vars G) G.start
          · have HW := Lib.hid (show ANS = .tuple #[.int .i64 0, .string ⟨#[]⟩] by rw [← HANS.out, hwe, if_pos hin]; rfl)
            generalize Nm.place (Nm.vars G) G.start = PL at HFN hpr hin hwe
            have hin2 : ¬ PL < 0 := by omega
            clear hno hb hat hgat hall hwe
            go_wp2_with fail
            refine (HFN.out _ HBW.out).mono ?_
            rintro e w5 ⟨rfl, hb5⟩
            have HB5 := Lib.hid (HBW.out.trans (hb5.mono HBW.out.size))
            clear hb5 p1 e3
            go_wp2_with fail
            go_ret2
            exact ⟨by rw [HW.out]; rfl, HB5.out⟩
          · have HW := Lib.hid (show ANS = .tuple #[.int .i64 16, .string ST] by
              rw [← HANS.out, hwe, if_neg hin]; unfold wrongV; rw [HST.out]; rfl)
            generalize Nm.place (Nm.vars G) G.start = PL at HFN hpr hin hwe
            have hin2 : PL < 0 := by omega
            clear hno hb hat hgat hall hwe hin
            go_wp2_with fail
            refine (HFN.out _ HBW.out).mono ?_
            rintro e w5 ⟨rfl, hb5⟩
            have hgat5 := HGAT.out.below hb5 HGAT.out.lt
            have r3 := hgat5.cell 3
            simp only [List.getElem?_toArray, List.getElem?_cons_zero, List.getElem?_cons_succ] at r3
            have HB5 := Lib.hid (HBW.out.trans (hb5.mono HBW.out.size))
            have hlg := hgat5.lt
            clear hb5 hgat5 p1 e3
            go_wp2_with fail
            go_quiet (fail)
            go_wp2_with fail
            go_ret2
            exact ⟨by rw [HW.out]; rfl, below_drewN HB5.out _⟩

end Go.Proofs.YtpgmapjjjpcmfaaGreatDoor
