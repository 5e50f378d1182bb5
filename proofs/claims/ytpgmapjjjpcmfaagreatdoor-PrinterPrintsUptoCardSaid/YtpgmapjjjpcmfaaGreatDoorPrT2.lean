/-
  The walk of tronageref07.Few: is a grammar of a size that is looked at? What it adds up, by itself where that is less than 2^62.
-/
import Derived.Test.YtpgmapjjjpcmfaaGreatDoorPrX
import Derived.Test.YtpgmapjjjpcmfaaGreatDoorPrP
import Derived.BigQuiet
import Derived.Deep.QuietTactic
namespace Go.Proofs.YtpgmapjjjpcmfaaGreatDoor
open Go.RowKit
open Lx
set_option linter.unusedVariables false
set_option linter.unusedSimpArgs false
set_option maxRecDepth 100000

namespace Pr
open Rd (Name Pat Tok Lev Rule G)
def tokN (t : Tok) : Nat := t.name.length + t.pat.text.length + t.pat.set.length
def patN (p : Pat) : Nat := p.text.length + p.set.length
def namN (n : Name) : Nat := n.length + 1
def levN (v : Lev) : Nat := (v.names.map namN).sum
def rulN0 (r : Rule) : Nat := r.left.length + r.prec.length + r.action.length
def rulN (r : Rule) : Nat := rulN0 r + (r.right.map namN).sum
def pre {α : Type} (f : α → Nat) (l : List α) (k : Nat) : Nat := ((l.take k).map f).sum
theorem pre_zero {α : Type} (f : α → Nat) (l : List α) : pre f l 0 = 0 := by simp [pre]
theorem pre_succ {α : Type} (f : α → Nat) {l : List α} {k : Nat} {x : α} (h : l[k]? = some x) : pre f l (k + 1) = pre f l k + f x := by
  unfold pre; rw [List.take_add_one, h]; simp
theorem pre_all {α : Type} (f : α → Nat) (l : List α) : pre f l l.length = (l.map f).sum := by unfold pre; rw [List.take_length]
theorem pre_le {α : Type} (f : α → Nat) (l : List α) (k : Nat) : pre f l k ≤ (l.map f).sum := by
  have h : (l.map f).sum = pre f l k + ((l.drop k).map f).sum := by
    unfold pre
    rw [← List.sum_append, ← List.map_append, List.take_append_drop]
  omega
theorem mem_le {α : Type} (f : α → Nat) {l : List α} {x : α} (h : x ∈ l) : f x ≤ (l.map f).sum := by
  obtain ⟨s, t, rfl⟩ := List.append_of_mem h
  simp; omega
def cntN (g : G) : Nat := g.toks.length + g.skips.length + g.levels.length + g.rules.length
def total (g : G) : Nat := cntN g + (g.toks.map tokN).sum + (g.skips.map patN).sum + (g.levels.map levN).sum + (g.rules.map rulN).sum
def fewB (g : G) : Bool := decide (cntN g ≤ 60) && decide (total g ≤ 1500)
end Pr

/-- A bool, the given one where T holds. -/
structure FewIs (e : Ending) (T : Prop) (fb : Bool) : Prop where
  ex : ∃ b : Bool, e = .returned (.bool b) ∧ (T → b = fb)
theorem w64_in (n : Int) (h : -9223372036854775808 ≤ n ∧ n ≤ 9223372036854775807) : wrap64 n = n := by unfold wrap64; omega
theorem str_len (l : List UInt8) : (str l).size = l.length := by rw [← bl_length, bl_str]

set_option maxHeartbeats 4000000 in
theorem few_any (v : Value) (G : Rd.G) (B : Nat) (w : World) (h : GramC w B v G) (hB : B ≤ w.heap.size) (hs : Sz G) :
    Calls Tryz.prog 6 #[v] w fun e w' => FewIs e (Pr.total G < 4611686018427387904) (Pr.fewB G) ∧ Below w.heap.size w w' := by
  obtain ⟨A1, c1, A2, c2, A3, c3, A4, c4, pl, ql, rfl, k1, k2, k3, k4, k5, k6, k7, k8⟩ := h.ex
  have hplen : pl.length = G.levels.length := by rw [← k4, List.length_map]
  have hqlen : ql.length = G.rules.length := by rw [← k7, List.length_map]
  obtain ⟨T, hT⟩ : ∃ T : Prop, (Pr.total G < 4611686018427387904) = T := ⟨_, rfl⟩
  have HTT := Lib.hid (show T → Pr.total G < 4611686018427387904 from fun t => by rw [hT]; exact t)
  rw [hT]
  obtain ⟨fb, hfb⟩ : ∃ fb, Pr.fewB G = fb := ⟨_, rfl⟩
  have HFB := Lib.hid hfb
  rw [hfb]
  obtain ⟨a, ha⟩ : ∃ a, G.toks.length = a := ⟨_, rfl⟩
  obtain ⟨b, hb⟩ : ∃ b, G.skips.length = b := ⟨_, rfl⟩
  obtain ⟨c, hc⟩ : ∃ c, G.levels.length = c := ⟨_, rfl⟩
  obtain ⟨d, hd⟩ : ∃ d, G.rules.length = d := ⟨_, rfl⟩
  have s1 := hs.n1
  have s2 := hs.n2
  have s3 := hs.n3
  have s4 := hs.n4
  rw [ha] at s1 ⊢
  rw [hb] at s2 ⊢
  rw [hc] at s3 hplen ⊢
  rw [hd] at s4 hqlen ⊢
  have HCN := Lib.hid (show Pr.cntN G = a + b + c + d by unfold Pr.cntN; rw [ha, hb, hc, hd])
  obtain ⟨st, hst⟩ : ∃ st, str G.start = st := ⟨_, rfl⟩
  rw [hst]
  have HB0 := Lib.hid ((Below.refl w.heap.size w).alloc (Nat.le_refl _) (.cells #[.slice A1 a c1, .slice A2 b c2, .slice A3 c c3, .string st, .slice A4 d c4] 27))
  have HAT0 := Lib.hid (At.new w 27 #[.slice A1 a c1, .slice A2 b c2, .slice A3 c c3, .string st, .slice A4 d c4])
  by_cases hcnt : 60 < a + b + c + d
  · have hfalse : fb = false := by rw [← hfb]; unfold Pr.fewB; rw [HCN.out, decide_eq_false (by omega)]; rfl
    have hgt : (60 : Int) < (a : Int) + (b : Int) + (c : Int) + (d : Int) := by omega
    have HF := Lib.hid hfalse
    clear h hB hs k1 k2 k3 k4 k5 k6 k7 k8 hplen hqlen hT ha hb hc hd hst hcnt hfb hfalse
    go_enter Tryz.func6, Tryz.ntmps6
    go_wp2_with fail
    go_ret
    exact ⟨⟨⟨false, rfl, fun _ => HF.out.symm⟩⟩, HB0.out⟩
  have hcnt' : a + b + c + d ≤ 60 := by omega
  have hle : ¬ (60 : Int) < (a : Int) + (b : Int) + (c : Int) + (d : Int) := by omega
  have l1 : a ≤ 60 := by omega
  have l2 : b ≤ 60 := by omega
  have l3 : c ≤ 60 := by omega
  have l4 : d ≤ 60 := by omega
  have HHS := Lib.hid hs
  have HA := Lib.hid ha
  have HBb := Lib.hid hb
  have HC := Lib.hid hplen
  have HD := Lib.hid hqlen
  have HQ3 := Lib.hid k4
  have HQ4 := Lib.hid k7
  have HLE := Lib.hid hcnt'
  obtain ⟨W0, hW0⟩ : ∃ W0, w.alloc (.cells #[.slice A1 a c1, .slice A2 b c2, .slice A3 c c3, .string st, .slice A4 d c4] 27) = W0 := ⟨_, rfl⟩
  have HW0 := Lib.hid hW0
  rw [hW0] at HB0 HAT0
  have L1 := Lib.hid (k1.below (HB0.out.mono hB))
  have L2 := Lib.hid (k2.below (HB0.out.mono hB))
  have L3 := Lib.hid (k3.below (HB0.out.mono hB))
  have L4 := Lib.hid (k6.below (HB0.out.mono hB))
  have J3 := Lib.hid (show ∀ p ∈ pl, NmC W0 B p.2.1 p.1.names from fun p hp => (k5 p hp).2.below (HB0.out.mono hB))
  have J4 := Lib.hid (show ∀ p ∈ ql, NmC W0 B p.2 p.1.right from fun p hp => (k8 p hp).below (HB0.out.mono hB))
  obtain ⟨g, hg⟩ : ∃ g, w.heap.size = g := ⟨_, rfl⟩
  have HG := Lib.hid hg
  clear h hB hs k1 k2 k3 k4 k5 k6 k7 k8 hplen hqlen hT ha hb hc hd hst hcnt hcnt' hfb hW0 s1 s2 s3 s4
  go_enter Tryz.func6, Tryz.ntmps6
  go_wp2_with fail
  rw [HW0.out]
  try rw [hg]
  rw [hg] at HAT0
  have hgl := HAT0.out.lt
  clear hg hle
  go_loopw [3, 4] (fun n i wr => ∃ (k m : Nat) (z : Int), k ≤ a ∧ i = .int .i64 (k : Int) ∧ n = .int .i64 z ∧ (T → z = ((Pr.cntN G + Pr.pre Pr.tokN G.toks k : Nat) : Int)) ∧ wr = W0.drewN m) (fun _ i _ => a - (intOf i).toNat)
  case atStart => exact ⟨0, 0, _, by omega, rfl, rfl, fun _ => by rw [HCN.out, Pr.pre_zero]; omega, rfl⟩
  case round =>
    obtain ⟨k, m, z, hk, rfl, rfl, hz, rfl⟩ := hrel
    have HZ := Lib.hid hz
    clear hz
    have a1' := HAT0.out
    have x0 := a1'.cell 0
    have x1 := a1'.cell 1
    have x2 := a1'.cell 2
    have x4 := a1'.cell 4
    simp only [List.getElem?_toArray, List.getElem?_cons_zero, List.getElem?_cons_succ] at x0 x1 x2 x4
    clear a1'
    by_cases hlt : k < a
    · obtain ⟨x, hx⟩ := some_get (l := G.toks) (i := k) (by rw [HA.out]; exact hlt)
      have hv := fun j u (hj : j < 4) (hu : x.cells[j]? = some u) => flat_get Rd.Tok.cells 4 (fun _ => rfl) G.toks k j x u hx hj hu
      have hne : toksV G.toks ≠ [] := fun e => by
        have h : (toksV G.toks)[k * 4 + 0]? = some (.string (str x.name)) := hv 0 _ (by omega) rfl
        rw [e] at h; simp at h
      obtain ⟨b1, o1, hA, hb1, f1⟩ := L1.out.ex hne
      rw [hA] at x0
      have y0 : W0.cell? ⟨b1, o1 + k * 4, none⟩ = some (.string (str x.name)) := f1 _ _ (hv 0 _ (by omega) rfl)
      have y1 : W0.cell? ⟨b1, o1 + k * 4 + 1, none⟩ = some (.string (str x.pat.text)) := by rw [Nat.add_assoc]; exact f1 _ _ (hv 1 _ (by omega) rfl)
      have y2 : W0.cell? ⟨b1, o1 + k * 4 + 2, none⟩ = some (.string (str x.pat.set)) := by rw [Nat.add_assoc]; exact f1 _ _ (hv 2 _ (by omega) rfl)
      have q0 := str_len x.name
      have q1 := str_len x.pat.text
      have q2 := str_len x.pat.set
      have hb := HHS.out.tok x (List.mem_of_getElem? hx)
      have HP := Lib.hid (Pr.pre_succ Pr.tokN hx)
      have hle2 := Pr.pre_le Pr.tokN G.toks (k + 1)
      have htk : Pr.tokN x = x.name.length + x.pat.text.length + x.pat.set.length := rfl
      rw [← q0, ← q1, ← q2] at htk hb
      generalize str x.name = X0 at y0 htk hb
      generalize str x.pat.text = X1 at y1 htk hb
      generalize str x.pat.set = X2 at y2 htk hb
      have HTK := Lib.hid htk
      obtain ⟨g0, g1, g2⟩ := hb
      have HG0 := Lib.hid g0
      have HG1 := Lib.hid g1
      have HG2 := Lib.hid g2
      have HL := Lib.hid hle2
      clear hx hv hne f1 hA q0 q1 q2 htk hle2 g0 g1 g2
      have hki : (k : Int) < (a : Int) := by omega
      have hk0 : (0 : Int) ≤ (k : Int) := by omega
      go_wp2_with fail
      go_quiet (fail)
      go_wp2_with fail
      go_roundw
      case rel =>
        refine ⟨k + 1, _, _, by omega, by go_num, rfl, fun ht => ?_, rfl⟩
        have h1 := HZ.out ht
        have h2 := HTT.out ht
        have h3 := HP.out
        have h4 := HTK.out
        have h5 := HL.out
        have h6 : Pr.cntN G + (G.toks.map Pr.tokN).sum ≤ Pr.total G := by unfold Pr.total; omega
        rw [w64_in (z + (X0.size : Int)) ⟨by omega, by omega⟩, w64_in (z + (X0.size : Int) + (X1.size : Int)) ⟨by omega, by omega⟩, w64_in (z + (X0.size : Int) + (X1.size : Int) + (X2.size : Int)) ⟨by omega, by omega⟩]
        omega
      case measure => simp [intOf]; omega
    · obtain rfl : a = k := by omega
      have HZ1 := Lib.hid (show T → z = ((Pr.cntN G + (G.toks.map Pr.tokN).sum : Nat) : Int) from fun ht => by rw [HZ.out ht, ← Pr.pre_all Pr.tokN G.toks, HA.out])
      go_wp2_with fail
      clear x0 x1 x2 x4 HZ
      go_loopw [3, 5] (fun n i wr => ∃ (k m : Nat) (z : Int), k ≤ b ∧ i = .int .i64 (k : Int) ∧ n = .int .i64 z ∧ (T → z = ((Pr.cntN G + (G.toks.map Pr.tokN).sum + Pr.pre Pr.patN G.skips k : Nat) : Int)) ∧ wr = W0.drewN m) (fun _ i _ => b - (intOf i).toNat)
      case atStart => exact ⟨0, m, z, by omega, rfl, rfl, fun ht => by rw [HZ1.out ht, Pr.pre_zero]; rfl, rfl⟩
      case round =>
        clear HZ1
        obtain ⟨k, m, z, hk, rfl, rfl, hz, rfl⟩ := hrel
        have HZ := Lib.hid hz
        clear hz
        have a1' := HAT0.out
        have x0 := a1'.cell 0
        have x1 := a1'.cell 1
        have x2 := a1'.cell 2
        have x4 := a1'.cell 4
        simp only [List.getElem?_toArray, List.getElem?_cons_zero, List.getElem?_cons_succ] at x0 x1 x2 x4
        clear a1'
        by_cases hlt : k < b
        · obtain ⟨x, hx⟩ := some_get (l := G.skips) (i := k) (by rw [HBb.out]; exact hlt)
          have hv := fun j u (hj : j < 3) (hu : x.cells[j]? = some u) => flat_get Rd.Pat.cells 3 (fun _ => rfl) G.skips k j x u hx hj hu
          have hne : patsV G.skips ≠ [] := fun e => by
            have h : (patsV G.skips)[k * 3 + 0]? = some (.string (str x.text)) := hv 0 _ (by omega) rfl
            rw [e] at h; simp at h
          obtain ⟨b1, o1, hA, hb1, f1⟩ := L2.out.ex hne
          rw [hA] at x1
          have y0 : W0.cell? ⟨b1, o1 + k * 3, none⟩ = some (.string (str x.text)) := f1 _ _ (hv 0 _ (by omega) rfl)
          have y1 : W0.cell? ⟨b1, o1 + k * 3 + 1, none⟩ = some (.string (str x.set)) := by rw [Nat.add_assoc]; exact f1 _ _ (hv 1 _ (by omega) rfl)
          have q0 := str_len x.text
          have q1 := str_len x.set
          have HP := Lib.hid (Pr.pre_succ Pr.patN hx)
          have hle2 := Pr.pre_le Pr.patN G.skips (k + 1)
          have hb := HHS.out.skip x (List.mem_of_getElem? hx)
          have htk : Pr.patN x = x.text.length + x.set.length := rfl
          rw [← q0, ← q1] at htk hb
          generalize str x.text = X0 at y0 htk hb
          generalize str x.set = X1 at y1 htk hb
          have HTK := Lib.hid htk
          obtain ⟨g0, g1⟩ := hb
          have HG0 := Lib.hid g0
          have HG1 := Lib.hid g1
          have HL := Lib.hid hle2
          clear hx hv hne f1 hA q0 q1 htk hle2 g0 g1
          have hki : (k : Int) < (b : Int) := by omega
          have hk0 : (0 : Int) ≤ (k : Int) := by omega
          go_wp2_with fail
          go_quiet (fail)
          go_wp2_with fail
          go_roundw
          case rel =>
            refine ⟨k + 1, _, _, by omega, by go_num, rfl, fun ht => ?_, rfl⟩
            have h1 := HZ.out ht
            have h2 := HTT.out ht
            have h3 := HP.out
            have h4 := HTK.out
            have h5 := HL.out
            have h6 : Pr.cntN G + (G.toks.map Pr.tokN).sum + (G.skips.map Pr.patN).sum ≤ Pr.total G := by unfold Pr.total; omega
            rw [w64_in (z + (X0.size : Int)) ⟨by omega, by omega⟩, w64_in (z + (X0.size : Int) + (X1.size : Int)) ⟨by omega, by omega⟩]
            omega
          case measure => simp [intOf]; omega
        · obtain rfl : b = k := by omega
          have HZ1 := Lib.hid (show T → z = ((Pr.cntN G + (G.toks.map Pr.tokN).sum + (G.skips.map Pr.patN).sum : Nat) : Int) from fun ht => by rw [HZ.out ht, ← Pr.pre_all Pr.patN G.skips, HBb.out])
          go_wp2_with fail
          clear x0 x1 x2 x4 HZ
          go_loopw [3, 6] (fun n i wr => ∃ (k m : Nat) (z : Int), k ≤ c ∧ i = .int .i64 (k : Int) ∧ n = .int .i64 z ∧ (T → z = ((Pr.cntN G + (G.toks.map Pr.tokN).sum + (G.skips.map Pr.patN).sum + Pr.pre Pr.levN G.levels k : Nat) : Int)) ∧ wr = W0.drewN m) (fun _ i _ => c - (intOf i).toNat)
          case atStart => exact ⟨0, m, z, by omega, rfl, rfl, fun ht => by rw [HZ1.out ht, Pr.pre_zero]; rfl, rfl⟩
          case round =>
            clear HZ1
            obtain ⟨k, m, z, hk, rfl, rfl, hz, rfl⟩ := hrel
            have HZ := Lib.hid hz
            clear hz
            have a1' := HAT0.out
            have x0 := a1'.cell 0
            have x1 := a1'.cell 1
            have x2 := a1'.cell 2
            have x4 := a1'.cell 4
            simp only [List.getElem?_toArray, List.getElem?_cons_zero, List.getElem?_cons_succ] at x0 x1 x2 x4
            clear a1'
            by_cases hlt : k < c
            · obtain ⟨p, hp⟩ := some_get (l := pl) (i := k) (by rw [HC.out]; exact hlt)
              have hx : G.levels[k]? = some p.1 := by rw [← HQ3.out, List.getElem?_map, hp]; rfl
              obtain ⟨E, cap, hpv, hcl⟩ := J3.out p (List.mem_of_getElem? hp)
              have hv := fun j u (hj : j < 2) (hu : (levC p)[j]? = some u) => flat_get levC 2 (fun _ => rfl) pl k j p u hp hj hu
              have hne : levsC pl ≠ [] := fun e => by
                have h : (levsC pl)[k * 2 + 0]? = some (.int .i64 p.2.2) := hv 0 _ (by omega) rfl
                rw [e] at h; simp at h
              obtain ⟨b1, o1, hA, hb1, f1⟩ := L3.out.ex hne
              rw [hA] at x2
              have y1 : W0.cell? ⟨b1, o1 + k * 2 + 1, none⟩ = some p.2.1 := by rw [Nat.add_assoc]; exact f1 _ _ (hv 1 _ (by omega) rfl)
              rw [hpv] at y1
              have HP := Lib.hid (Pr.pre_succ Pr.levN hx)
              have HL := Lib.hid (Pr.pre_le Pr.levN G.levels (k + 1))
              obtain ⟨hbn, hbl⟩ := HHS.out.lev p.1 (List.mem_of_getElem? hx)
              have HLN := Lib.hid (show Pr.levN p.1 = (p.1.names.map Pr.namN).sum from rfl)
              obtain ⟨NS, hNS⟩ : ∃ NS, p.1.names = NS := ⟨_, rfl⟩
              rw [hNS] at HLN hbn hbl y1 hcl
              obtain ⟨nn, hnn⟩ : ∃ nn, NS.length = nn := ⟨_, rfl⟩
              rw [hnn] at hbn y1
              have HNN := Lib.hid hnn
              have HBL := Lib.hid hbl
              have HCL := Lib.hid hcl
              clear hx hp hv hne f1 hA hpv hcl hbl hNS hnn
              have hki : (k : Int) < (c : Int) := by omega
              have hk0 : (0 : Int) ≤ (k : Int) := by omega
              go_wp2_with fail
              go_loopw [3, 7] (fun n i wr' => ∃ (k' m' : Nat) (z' : Int), k' ≤ nn ∧ i = .int .i64 (k' : Int) ∧ n = .int .i64 z' ∧ (T → z' = ((Pr.cntN G + (G.toks.map Pr.tokN).sum + (G.skips.map Pr.patN).sum + Pr.pre Pr.levN G.levels k + Pr.pre Pr.namN NS k' : Nat) : Int)) ∧ wr' = W0.drewN m') (fun _ i _ => nn - (intOf i).toNat)
              case atStart => exact ⟨0, m, z, by omega, rfl, rfl, fun ht => by rw [HZ.out ht, Pr.pre_zero]; rfl, rfl⟩
              case round =>
                obtain ⟨k', m', z', hk', rfl, rfl, hz, rfl⟩ := hrel
                have HZ2 := Lib.hid hz
                clear hz
                by_cases hlt' : k' < nn
                · obtain ⟨y, hy⟩ := some_get (l := NS) (i := k') (by rw [HNN.out]; exact hlt')
                  obtain ⟨b2, o2, hA2, hb2, f2⟩ := HCL.out.ex (fun e => by have h := namesV_get hy; rw [e] at h; simp at h)
                  subst hA2
                  have z0 : W0.cell? ⟨b2, o2 + k', none⟩ = some (.string (str y)) := f2 _ _ (namesV_get hy)
                  have q0 := str_len y
                  have HP2 := Lib.hid (Pr.pre_succ Pr.namN hy)
                  have HL2 := Lib.hid (Pr.pre_le Pr.namN NS (k' + 1))
                  have hb := HBL.out y (List.mem_of_getElem? hy)
                  have htk : Pr.namN y = y.length + 1 := rfl
                  rw [← q0] at htk hb
                  generalize str y = X0 at z0 htk hb
                  have HTK := Lib.hid htk
                  have HG0 := Lib.hid hb
                  clear hy f2 q0 htk hb
                  have hki' : (k' : Int) < (nn : Int) := by omega
                  have hk0' : (0 : Int) ≤ (k' : Int) := by omega
                  go_wp2_with fail
                  go_roundw
                  case rel =>
                    refine ⟨k' + 1, _, _, by omega, by go_num, rfl, fun ht => ?_, rfl⟩
                    have h1 := HZ2.out ht
                    have h2 := HTT.out ht
                    have h3 := HP2.out
                    have h4 := HTK.out
                    have h5 := HL2.out
                    have h7 := HP.out
                    have h8 := HL.out
                    have h9 := HLN.out
                    have h6 : Pr.cntN G + (G.toks.map Pr.tokN).sum + (G.skips.map Pr.patN).sum + (G.levels.map Pr.levN).sum ≤ Pr.total G := by unfold Pr.total; omega
                    rw [w64_in (z' + (X0.size : Int)) ⟨by omega, by omega⟩, w64_in (z' + (X0.size : Int) + 1) ⟨by omega, by omega⟩]
                    omega
                  case measure => simp [intOf]; omega
                · obtain rfl : nn = k' := by omega
                  have HZ3 := Lib.hid (show T → z' = ((Pr.cntN G + (G.toks.map Pr.tokN).sum + (G.skips.map Pr.patN).sum + Pr.pre Pr.levN G.levels (k + 1) : Nat) : Int) from fun ht => by
                    have e := Pr.pre_all Pr.namN NS
                    rw [HNN.out] at e
                    have h3 := HP.out
                    have h9 := HLN.out
                    rw [HZ2.out ht]
                    omega)
                  clear HZ2
                  go_wp2_with fail
                  go_roundw
                  case rel => exact ⟨k + 1, _, z', by omega, by go_num, rfl, HZ3.out, rfl⟩
                  case measure => simp [intOf]; omega
            · obtain rfl : c = k := by omega
              have HZ1 := Lib.hid (show T → z = ((Pr.cntN G + (G.toks.map Pr.tokN).sum + (G.skips.map Pr.patN).sum + (G.levels.map Pr.levN).sum : Nat) : Int) from fun ht => by
                have e : G.levels.length = c := by rw [← HQ3.out, List.length_map, HC.out]
                rw [HZ.out ht, ← Pr.pre_all Pr.levN G.levels, e])
              go_wp2_with fail
              clear x0 x1 x2 x4 HZ
              go_loopw [3, 8] (fun n i wr => ∃ (k m : Nat) (z : Int), k ≤ d ∧ i = .int .i64 (k : Int) ∧ n = .int .i64 z ∧ (T → z = ((Pr.cntN G + (G.toks.map Pr.tokN).sum + (G.skips.map Pr.patN).sum + (G.levels.map Pr.levN).sum + Pr.pre Pr.rulN G.rules k : Nat) : Int)) ∧ wr = W0.drewN m) (fun _ i _ => d - (intOf i).toNat)
              case atStart => exact ⟨0, m, z, by omega, rfl, rfl, fun ht => by rw [HZ1.out ht, Pr.pre_zero]; rfl, rfl⟩
              case round =>
                clear HZ1
                obtain ⟨k, m, z, hk, rfl, rfl, hz, rfl⟩ := hrel
                have HZ := Lib.hid hz
                clear hz
                have a1' := HAT0.out
                have x0 := a1'.cell 0
                have x1 := a1'.cell 1
                have x2 := a1'.cell 2
                have x4 := a1'.cell 4
                simp only [List.getElem?_toArray, List.getElem?_cons_zero, List.getElem?_cons_succ] at x0 x1 x2 x4
                clear a1'
                by_cases hlt : k < d
                · obtain ⟨p, hp⟩ := some_get (l := ql) (i := k) (by rw [HD.out]; exact hlt)
                  have hx : G.rules[k]? = some p.1 := by rw [← HQ4.out, List.getElem?_map, hp]; rfl
                  obtain ⟨E, cap, hpv, hcl⟩ := J4.out p (List.mem_of_getElem? hp)
                  have hv := fun j u (hj : j < 4) (hu : (ruleCells p)[j]? = some u) => flat_get ruleCells 4 (fun _ => rfl) ql k j p u hp hj hu
                  have hne : rulesV ql ≠ [] := fun e => by
                    have h : (rulesV ql)[k * 4 + 0]? = some (.string (str p.1.left)) := hv 0 _ (by omega) rfl
                    rw [e] at h; simp at h
                  obtain ⟨b1, o1, hA, hb1, f1⟩ := L4.out.ex hne
                  rw [hA] at x4
                  have y0 : W0.cell? ⟨b1, o1 + k * 4, none⟩ = some (.string (str p.1.left)) := f1 _ _ (hv 0 _ (by omega) rfl)
                  have y1 : W0.cell? ⟨b1, o1 + k * 4 + 1, none⟩ = some p.2 := by rw [Nat.add_assoc]; exact f1 _ _ (hv 1 _ (by omega) rfl)
                  have y2 : W0.cell? ⟨b1, o1 + k * 4 + 2, none⟩ = some (.string (str p.1.prec)) := by rw [Nat.add_assoc]; exact f1 _ _ (hv 2 _ (by omega) rfl)
                  have y3 : W0.cell? ⟨b1, o1 + k * 4 + 3, none⟩ = some (.string (str p.1.action)) := by rw [Nat.add_assoc]; exact f1 _ _ (hv 3 _ (by omega) rfl)
                  rw [hpv] at y1
                  have HP := Lib.hid (Pr.pre_succ Pr.rulN hx)
                  have HL := Lib.hid (Pr.pre_le Pr.rulN G.rules (k + 1))
                  have q0 := str_len p.1.left
                  have q2 := str_len p.1.prec
                  have q3 := str_len p.1.action
                  obtain ⟨g0, g2, g3, hbn, hbl⟩ := HHS.out.rul p.1 (List.mem_of_getElem? hx)
                  have hln : Pr.rulN p.1 = p.1.left.length + p.1.prec.length + p.1.action.length + (p.1.right.map Pr.namN).sum := rfl
                  rw [← q0, ← q2, ← q3] at hln
                  rw [← q0] at g0
                  rw [← q2] at g2
                  rw [← q3] at g3
                  generalize str p.1.left = X0 at y0 hln g0
                  generalize str p.1.prec = X2 at y2 hln g2
                  generalize str p.1.action = X3 at y3 hln g3
                  obtain ⟨NS, hNS⟩ : ∃ NS, p.1.right = NS := ⟨_, rfl⟩
                  rw [hNS] at hln hbn hbl y1 hcl
                  have HLN := Lib.hid hln
                  obtain ⟨nn, hnn⟩ : ∃ nn, NS.length = nn := ⟨_, rfl⟩
                  rw [hnn] at hbn y1
                  have HNN := Lib.hid hnn
                  have HBL := Lib.hid hbl
                  have HCL := Lib.hid hcl
                  have HG0 := Lib.hid g0
                  have HG2 := Lib.hid g2
                  have HG3 := Lib.hid g3
                  clear hx hp hv hne f1 hA hpv hcl hbl hNS hnn q0 q2 q3 hln g0 g2 g3
                  have hki : (k : Int) < (d : Int) := by omega
                  have hk0 : (0 : Int) ≤ (k : Int) := by omega
                  have hsum : T → wrap64 (wrap64 (wrap64 (z + (X0.size : Int)) + (X2.size : Int)) + (X3.size : Int)) = ((Pr.cntN G + (G.toks.map Pr.tokN).sum + (G.skips.map Pr.patN).sum + (G.levels.map Pr.levN).sum + Pr.pre Pr.rulN G.rules k + (X0.size + X2.size + X3.size) : Nat) : Int) := fun ht => by
                    have h1 := HZ.out ht
                    have h2 := HTT.out ht
                    have h3 := HP.out
                    have h5 := HL.out
                    have h9 := HLN.out
                    have h6 : Pr.cntN G + (G.toks.map Pr.tokN).sum + (G.skips.map Pr.patN).sum + (G.levels.map Pr.levN).sum + (G.rules.map Pr.rulN).sum ≤ Pr.total G := by unfold Pr.total; omega
                    rw [w64_in (z + (X0.size : Int)) ⟨by omega, by omega⟩, w64_in (z + (X0.size : Int) + (X2.size : Int)) ⟨by omega, by omega⟩, w64_in (z + (X0.size : Int) + (X2.size : Int) + (X3.size : Int)) ⟨by omega, by omega⟩]
                    omega
                  have HSUM := Lib.hid hsum
                  clear hsum
                  go_wp2_with fail
                  go_quiet (fail)
                  go_wp2_with fail
                  go_loopw [3, 9] (fun n i wr' => ∃ (k' m' : Nat) (z' : Int), k' ≤ nn ∧ i = .int .i64 (k' : Int) ∧ n = .int .i64 z' ∧ (T → z' = ((Pr.cntN G + (G.toks.map Pr.tokN).sum + (G.skips.map Pr.patN).sum + (G.levels.map Pr.levN).sum + Pr.pre Pr.rulN G.rules k + (X0.size + X2.size + X3.size) + Pr.pre Pr.namN NS k' : Nat) : Int)) ∧ wr' = W0.drewN m') (fun _ i _ => nn - (intOf i).toNat)
                  case atStart => exact ⟨0, m + nq, _, by omega, rfl, rfl, fun ht => by rw [HSUM.out ht, Pr.pre_zero]; rfl, by rw [World.drewN_drewN]⟩
                  case round =>
                    obtain ⟨k', m', z', hk', rfl, rfl, hz, rfl⟩ := hrel
                    have HZ2 := Lib.hid hz
                    clear hz
                    by_cases hlt' : k' < nn
                    · obtain ⟨y, hy⟩ := some_get (l := NS) (i := k') (by rw [HNN.out]; exact hlt')
                      obtain ⟨b2, o2, hA2, hb2, f2⟩ := HCL.out.ex (fun e => by have h := namesV_get hy; rw [e] at h; simp at h)
                      subst hA2
                      have z0 : W0.cell? ⟨b2, o2 + k', none⟩ = some (.string (str y)) := f2 _ _ (namesV_get hy)
                      have q0 := str_len y
                      have HP2 := Lib.hid (Pr.pre_succ Pr.namN hy)
                      have HL2 := Lib.hid (Pr.pre_le Pr.namN NS (k' + 1))
                      have hb := HBL.out y (List.mem_of_getElem? hy)
                      have htk : Pr.namN y = y.length + 1 := rfl
                      rw [← q0] at htk hb
                      generalize str y = XY at z0 htk hb
                      have HTK := Lib.hid htk
                      have HGY := Lib.hid hb
                      clear hy f2 q0 htk hb
                      have hki' : (k' : Int) < (nn : Int) := by omega
                      have hk0' : (0 : Int) ≤ (k' : Int) := by omega
                      go_wp2_with fail
                      go_roundw
                      case rel =>
                        refine ⟨k' + 1, _, _, by omega, by go_num, rfl, fun ht => ?_, rfl⟩
                        have h1 := HZ2.out ht
                        have h2 := HTT.out ht
                        have h3 := HP2.out
                        have h4 := HTK.out
                        have h5 := HL2.out
                        have h7 := HP.out
                        have h8 := HL.out
                        have h9 := HLN.out
                        have h6 : Pr.cntN G + (G.toks.map Pr.tokN).sum + (G.skips.map Pr.patN).sum + (G.levels.map Pr.levN).sum + (G.rules.map Pr.rulN).sum ≤ Pr.total G := by unfold Pr.total; omega
                        rw [w64_in (z' + (XY.size : Int)) ⟨by omega, by omega⟩, w64_in (z' + (XY.size : Int) + 1) ⟨by omega, by omega⟩]
                        omega
                      case measure => simp [intOf]; omega
                    · obtain rfl : nn = k' := by omega
                      have HZ3 := Lib.hid (show T → z' = ((Pr.cntN G + (G.toks.map Pr.tokN).sum + (G.skips.map Pr.patN).sum + (G.levels.map Pr.levN).sum + Pr.pre Pr.rulN G.rules (k + 1) : Nat) : Int) from fun ht => by
                        have e := Pr.pre_all Pr.namN NS
                        rw [HNN.out] at e
                        have h3 := HP.out
                        have h9 := HLN.out
                        rw [HZ2.out ht]
                        omega)
                      clear HZ2
                      go_wp2_with fail
                      go_roundw
                      case rel => exact ⟨k + 1, _, z', by omega, by go_num, rfl, HZ3.out, rfl⟩
                      case measure => simp [intOf]; omega
                · obtain rfl : d = k := by omega
                  have HZ1 := Lib.hid (show T → z = (Pr.total G : Int) from fun ht => by
                    have e : G.rules.length = d := by rw [← HQ4.out, List.length_map, HD.out]
                    rw [HZ.out ht, ← e, Pr.pre_all Pr.rulN G.rules]; rfl)
                  have HFW := Lib.hid (show fb = decide (Pr.total G ≤ 1500) by
                    rw [← HFB.out]; unfold Pr.fewB; rw [HCN.out, decide_eq_true HLE.out, Bool.true_and])
                  clear HZ
                  by_cases hz : z ≤ 1500
                  · go_wp2_with fail
                    go_ret
                    exact ⟨⟨⟨true, rfl, fun ht => by rw [HFW.out, decide_eq_true (by have := HZ1.out ht; omega)]⟩⟩, below_drewN HB0.out _⟩
                  · go_wp2_with fail
                    go_ret
                    exact ⟨⟨⟨false, rfl, fun ht => by rw [HFW.out, decide_eq_false (by have := HZ1.out ht; omega)]⟩⟩, below_drewN HB0.out _⟩

end Go.Proofs.YtpgmapjjjpcmfaaGreatDoor
