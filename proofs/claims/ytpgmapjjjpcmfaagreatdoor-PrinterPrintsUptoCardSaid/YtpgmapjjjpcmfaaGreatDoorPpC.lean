import Derived.Test.YtpgmapjjjpcmfaaGreatDoorPpB
import Derived.Test.YtpgmapjjjpcmfaaGreatDoorPrPX
import Derived.Test.YtpgmapjjjpcmfaaGreatDoorPrT2
namespace Go.Proofs.YtpgmapjjjpcmfaaGreatDoor
open Go.RowKit
open Lx
set_option linter.unusedVariables false
set_option linter.unusedSimpArgs false
set_option maxRecDepth 100000
namespace Pr
open Rd (Name Pat Tok Lev Rule G)
theorem names_le7 : ∀ l : List Name, l.length ≤ (l.map namN).sum
 | [] => by simp
 | x :: r => by
  have := names_le7 r
  simp only [List.map_cons, List.sum_cons, List.length_cons]
  unfold namN at *
  omega
theorem name_le7 {l : List Name} {n : Name} (h : n ∈ l) : n.length ≤ (l.map namN).sum := by
 have h1 := mem_le namN h
 have h2 : namN n = n.length + 1 := rfl
 omega
theorem lvl_le7 (g : G) : (lvl g).length ≤ (g.levels.map levN).sum := by
 unfold lvl
 generalize g.levels = l
 induction l with
 | nil => simp
 | cons v r ih =>
  have := names_le7 v.names
  simp only [List.flatMap_cons, List.length_append, List.map_cons, List.sum_cons]
  unfold levN at *
  omega
theorem few_lvl7 {g : G} (h : fewB g = true) : (lvl g).length ≤ 1500 ∧ g.toks.length ≤ 60 ∧ g.rules.length ≤ 60 := by
 unfold fewB at h
 simp only [Bool.and_eq_true, decide_eq_true_eq] at h
 have h1 := lvl_le7 g
 have h2 := h.2
 have h3 := h.1
 unfold total at h2
 unfold cntN at h2 h3
 omega
end Pr
theorem few_sz7 {g : Rd.G} (h : Pr.fewB g = true) (hs : g.start.length ≤ 10000000) : Sz7 g := by
 unfold Pr.fewB at h
 simp only [Bool.and_eq_true, decide_eq_true_eq] at h
 have h2 := h.2
 unfold Pr.total at h2
 refine ⟨fun t ht => ?_, fun t ht => ?_, fun t ht => ?_, hs, fun r hr => ?_⟩
 ·have h3 := Pr.mem_le Pr.tokN ht
  have h4 : Pr.tokN t = t.name.length + t.pat.text.length + t.pat.set.length := rfl
  omega
 ·have h3 := Pr.mem_le Pr.patN ht
  have h4 : Pr.patN t = t.text.length + t.set.length := rfl
  omega
 ·have h3 := Pr.mem_le Pr.levN ht
  have h4 : Pr.levN t = (t.names.map Pr.namN).sum := rfl
  have h5 := Pr.names_le7 t.names
  exact ⟨by omega, fun n hn => by have := Pr.name_le7 hn; omega⟩
 ·have h3 := Pr.mem_le Pr.rulN hr
  have h4 : Pr.rulN r = r.left.length + r.prec.length + r.action.length + (r.right.map Pr.namN).sum := rfl
  have h5 := Pr.names_le7 r.right
  exact ⟨by omega, by omega, by omega, by omega, fun n hn => by have := Pr.name_le7 hn; omega⟩
theorem printV_two7 (G : Rd.G) : ∃ a e, printV G = .tuple #[.string a, .int .i64 e] := by
 unfold printV
 split
 ·split
  ·exact ⟨_, _, rfl⟩
  ·exact ⟨_, _, rfl⟩
 ·exact ⟨_, _, rfl⟩
set_option maxHeartbeats 4000000 in
theorem prints7_law (v : Value) (G : Rd.G) (W9 : World) (hgs : ((GramC W9 W9.heap.size v G ∧ Sz G) ∧ Pr.total G < 4611686018427387904) ∧ G.start.length ≤ 10000000) (hT : Tab W9) (h0 : 1 < W9.heap.size) :
    Calls Tryz.prog 3 #[v] W9 fun e w' => e = .returned (.bool true) ∧ Below W9.heap.size W9 w' := by
  obtain ⟨⟨⟨h, hs⟩, hM⟩, hst9⟩ := hgs
  obtain ⟨w, hw9⟩ : ∃ w, W9 = w := ⟨_, rfl⟩
  subst hw9
  have HGC := Lib.hid h
  have HSS := Lib.hid hs
  have HT := Lib.hid hT
  obtain ⟨FB, hFB⟩ : ∃ b, Pr.fewB G = b := ⟨_, rfl⟩
  have HFB := Lib.hid hFB
  have HS7 := Lib.hid (fun hf : Pr.fewB G = true => few_sz7 hf hst9)
  have KF0 := Lib.hid (show ∀ w', Below W9.heap.size W9 w' → Calls Tryz.prog 6 #[v] w' fun e w'' => e = .returned (.bool FB) ∧ Below w'.heap.size w' w'' from fun w' hw' => (few_any v G W9.heap.size w' (h.below hw') hw'.size hs).mono (by
    rintro e w2 ⟨⟨⟨b, rfl, hb⟩⟩, hb2⟩
    exact ⟨by rw [hb hM, hFB], hb2⟩))
  obtain ⟨SV, EV, hPV⟩ := printV_two7 G
  obtain ⟨R, hR⟩ : ∃ R, Pr.rightB G = R := ⟨_, rfl⟩
  have KP0 := Lib.hid (show Pr.fewB G = true → ∀ w', Below W9.heap.size W9 w' → Calls Tryz.prog 7 #[v] w' fun e w'' => e = .returned (.tuple #[.string SV, .int .i64 EV]) ∧ Below w'.heap.size w' w'' from fun hf w' hw' => by
    rw [← hPV]
    exact print_any v G W9.heap.size w' (h.below hw') hw'.size hs (hT.below hw' h0) h0 (fun _ => by have := (Pr.few_lvl7 hf).1; omega))
  have KQ0 := Lib.hid (show Pr.fewB G = true → ∀ w', Below W9.heap.size W9 w' → Calls Tryz.prog 8 #[v] w' fun e w'' => e = .returned (.tuple #[.string SV, .int .i64 EV]) ∧ Below w'.heap.size w' w'' from fun hf w' hw' => by
    rw [← hPV]
    exact rprint7_any v G W9.heap.size w' (h.below hw') hw'.size hs (few_sz7 hf hst9) (by have := (Pr.few_lvl7 hf).1; omega))
  have KR0 := Lib.hid (show Pr.fewB G = true → ∀ w', Below W9.heap.size W9 w' → Calls Tryz.prog 9 #[v] w' fun e w'' => e = .returned (.bool R) ∧ Below w'.heap.size w' w'' from fun hf w' hw' => by
    rw [← hR]
    exact pright_any v G W9.heap.size w' (h.below hw') hw'.size hs (hT.below hw' h0) h0 (fun _ => by have := (Pr.few_lvl7 hf).1; omega))
  have KS0 := Lib.hid (show Pr.fewB G = true → ∀ w', Below W9.heap.size W9 w' → Calls Tryz.prog 14 #[v] w' fun e w'' => e = .returned (.bool R) ∧ Below w'.heap.size w' w'' from fun hf w' hw' => by
    rw [← hR]
    exact rright7_any v G W9.heap.size w' (h.below hw') hw'.size hs (by have := (Pr.few_lvl7 hf).1; omega))
  obtain ⟨A1, c1, A2, c2, A3, c3, A4, c4, pl, ql, rfl, k1, k2, k3, k4, k5, k6, k7, k8⟩ := h.ex
  have HL4 := Lib.hid (show RulsC W9 W9.heap.size A4 G.rules from ⟨ql, k6, k7, k8⟩)
  have HL1 := Lib.hid k1
  clear k1 k2 k3 k4 k5 k6 k7 k8 h hs hM HGC HSS hFB hPV hR
  obtain ⟨st, hst⟩ : ∃ st, str G.start = st := ⟨_, rfl⟩
  obtain ⟨n1, hn1⟩ : ∃ n, G.toks.length = n := ⟨_, rfl⟩
  obtain ⟨n2, hn2⟩ : ∃ n, G.skips.length = n := ⟨_, rfl⟩
  obtain ⟨n3, hn3⟩ : ∃ n, G.levels.length = n := ⟨_, rfl⟩
  obtain ⟨n4, hn4⟩ : ∃ n, G.rules.length = n := ⟨_, rfl⟩
  rw [hst, hn1, hn2, hn3, hn4] at KF0 KP0 KQ0 KR0 KS0 ⊢
  have HN1 := Lib.hid hn1
  have HN4 := Lib.hid hn4
  have hb := (Below.refl W9.heap.size W9).alloc (Nat.le_refl _) (.cells #[.slice A1 n1 c1, .slice A2 n2 c2, .slice A3 n3 c3, .string st, .slice A4 n4 c4] 27)
  have hat := At.new W9 27 #[.slice A1 n1 c1, .slice A2 n2 c2, .slice A3 n3 c3, .string st, .slice A4 n4 c4]
  obtain ⟨W, hW⟩ : ∃ W, W9.alloc (.cells #[.slice A1 n1 c1, .slice A2 n2 c2, .slice A3 n3 c3, .string st, .slice A4 n4 c4] 27) = W := ⟨_, rfl⟩
  rw [hW] at hb hat
  have HW := Lib.hid hW
  obtain ⟨g, hg⟩ : ∃ g, W9.heap.size = g := ⟨_, rfl⟩
  have HG := Lib.hid hg
  rw [hg] at hat
  obtain ⟨GW, hGW⟩ := Qt.class_of W.heap.size W (Nat.le_refl _)
  obtain ⟨xw, hxw⟩ := hGW.onto W (Below.refl _ _)
  have HXW := Lib.hid hxw
  have HGW := Lib.hid hGW
  have HBB := Lib.hid (fun x => hb.trans ((hGW.below x).mono hb.size))
  have hgl := hat.lt
  have hBW : W9.heap.size ≤ W.heap.size := hb.size
  have p0 := hat.cell 0
  have p1 := hat.cell 1
  have p2 := hat.cell 2
  have p3 := hat.cell 3
  have p4 := hat.cell 4
  simp only [List.getElem?_toArray, List.getElem?_cons_zero, List.getElem?_cons_succ] at p0 p1 p2 p3 p4
  have q0 := Qt.cell hGW hgl p0
  have q1 := Qt.cell hGW hgl p1
  have q2 := Qt.cell hGW hgl p2
  have q3 := Qt.cell hGW hgl p3
  have q4 := Qt.cell hGW hgl p4
  have KA := Lib.hid (Qt.calls_at7 hGW fun x => awake7_any (GW x) (HT.out.below (HBB.out x) h0) (Nat.lt_of_lt_of_le h0 (HBB.out x).size))
  have KF := Lib.hid (Qt.calls_at7 hGW fun x => KF0.out (GW x) (HBB.out x))
  have KP := Lib.hid (fun hf => Qt.calls_at7 hGW fun x => KP0.out hf (GW x) (HBB.out x))
  have KQ := Lib.hid (fun hf => Qt.calls_at7 hGW fun x => KQ0.out hf (GW x) (HBB.out x))
  have KR := Lib.hid (fun hf => Qt.calls_at7 hGW fun x => KR0.out hf (GW x) (HBB.out x))
  have KS := Lib.hid (fun hf => Qt.calls_at7 hGW fun x => KS0.out hf (GW x) (HBB.out x))
  have KX := Lib.hid (fun (p : Rd.Pat) (h1 : p.text.length ≤ 100000) (h2 : p.set.length ≤ 100000) => Qt.calls hGW fun w' => pattern7_any p w' h1 h2)
  have KY := Lib.hid (fun (p : Rd.Pat) (h1 : p.text.length ≤ 100000) (h2 : p.set.length ≤ 100000) => Qt.calls hGW fun w' => rpattern7_any p w' h1 h2)
  have HR := Lib.hid (HL4.out.below hb)
  have HL := Lib.hid (HL1.out.below hb)
  clear hst hn1 hn2 hn3 hn4 hb hat hW hg hGW hxw hgl p0 p1 p2 p3 p4 hT KF0 KP0 KQ0 KR0 KS0 HL1 HL4 hst9
  go_enter Tryz.func3, Tryz.ntmps3
  go_wp2_with fail
  rw [HW.out, HG.out, HXW.out]
  refine (KA.out xw).mono ?_
  rintro e w1 ⟨rfl, y, rfl⟩
  go_wp2_with fail
  refine (KF.out y).mono ?_
  rintro e w1 ⟨rfl, y, rfl⟩
  cases FB with
  | false =>
    go_wp2_with fail
    go_ret
    exact ⟨rfl, HBB.out _⟩
  | true =>
    have HS := Lib.hid (HS7.out HFB.out)
    have HFL := Pr.few_lvl7 HFB.out
    have hn1 : n1 ≤ 60 := HN1.out ▸ HFL.2.1
    have hn4 : n4 ≤ 60 := HN4.out ▸ HFL.2.2
    have KP := Lib.hid (KP.out HFB.out)
    have KQ := Lib.hid (KQ.out HFB.out)
    have KR := Lib.hid (KR.out HFB.out)
    have KS := Lib.hid (KS.out HFB.out)
    clear HFL
    have u1 : (SV.toList == SV.toList) = true := by simp
    have u2 : (EV == EV) = true := by simp
    have u3 : ∀ b : ByteArray, (b.toList != b.toList) = false := fun b => by simp
    go_wp2_with fail
    refine (KP.out _).mono ?_
    rintro e w1 ⟨rfl, y, rfl⟩
    go_wp2_with fail
    refine (KQ.out _).mono ?_
    rintro e w1 ⟨rfl, y, rfl⟩
    go_wp2_with fail
    refine (KR.out _).mono ?_
    rintro e w1 ⟨rfl, y, rfl⟩
    go_wp2_with fail
    go_loopw [10] (fun i wr => ∃ (k : Nat) (x : World), k ≤ n4 ∧ i = .int .i64 (k : Int) ∧ wr = GW x) (fun i _ => n4 - (intOf i).toNat)
    case atStart => exact ⟨0, y, by omega, rfl, rfl⟩
    case round =>
      obtain ⟨k, x, hk, rfl, rfl⟩ := hrel
      by_cases hlt : k < n4
      · obtain ⟨t, ht⟩ := some_get (l := G.rules) (i := k) (by rw [HN4.out]; exact hlt)
        obtain ⟨bb, oo, A', c', hA, hbb, z0, z1, z2, z3, hcl⟩ := HR.out.get ht
        subst hA
        have hbb' : bb < W.heap.size := Nat.lt_of_lt_of_le hbb hBW
        have y0 := Qt.cell HGW.out hbb' z0
        have y1 := Qt.cell HGW.out hbb' z1
        have y2 := Qt.cell HGW.out hbb' z2
        have y3 := Qt.cell HGW.out hbb' z3
        have hzz := HS.out.rul t (List.mem_of_getElem? ht)
        have K1 := Lib.hid (Qt.calls_at7 HGW.out fun x => rule7_any t A' c' W9.heap.size (GW x) (hcl.below ((HGW.out.below x).mono hBW)) (Nat.le_trans hBW (HGW.out.below x).size) hzz)
        have K2 := Lib.hid (Qt.calls_at7 HGW.out fun x => rrule7_any t A' c' W9.heap.size (GW x) (hcl.below ((HGW.out.below x).mono hBW)) (Nat.le_trans hBW (HGW.out.below x).size) hzz)
        generalize str t.left = X0 at y0 K1 K2
        generalize t.right.length = XL at y1 K1 K2
        generalize str t.prec = X2 at y2 K1 K2
        generalize str t.action = X3 at y3 K1 K2
        generalize str (Pr.ruleT t) = XP at K1 K2
        have u4 : (XP.toList != XP.toList) = false := by simp
        have u5 : (XP.toList == XP.toList) = true := by simp
        have hki : (k : Int) < (n4 : Int) := by omega
        have hk0 : (0 : Int) ≤ (k : Int) := by omega
        clear ht hbb z0 z1 z2 z3 hcl hzz
        go_wp2_with fail
        refine Qt.start HGW.out (by kernel_rfl) (by kernel_rfl) ?_
        repeat (go_big_quiet_step (first | with_reducible exact K1.out _ | with_reducible exact K2.out _))
        refine wpQuiet_nil ?_
        intro _ hw'
        obtain ⟨y, hw''⟩ := hw'
        subst hw''
        go_wp2_with fail
        go_roundw
        case rel => exact ⟨k + 1, y, by omega, by go_num, rfl⟩
        case measure => simp [intOf]; omega
      · obtain rfl : n4 = k := by omega
        go_wp2_with fail
        go_loopw [11] (fun i wr => ∃ (k : Nat) (x : World), k ≤ n1 ∧ i = .int .i64 (k : Int) ∧ wr = GW x) (fun i _ => n1 - (intOf i).toNat)
        case atStart => exact ⟨0, x, by omega, rfl, rfl⟩
        case round =>
          obtain ⟨k, x, hk, rfl, rfl⟩ := hrel
          by_cases hlt : k < n1
          · obtain ⟨t, ht⟩ := some_get (l := G.toks) (i := k) (by rw [HN1.out]; exact hlt)
            have hv := fun j u (hj : j < 4) (hu : t.cells[j]? = some u) => flat_get Rd.Tok.cells 4 (fun _ => rfl) G.toks k j t u ht hj hu
            obtain ⟨bb, oo, hA, hbb, ff⟩ := HL.out.ex (fun e => by
              have h : (toksV G.toks)[k * 4 + 0]? = some (.string (str t.name)) := hv 0 _ (by omega) rfl
              rw [e] at h; simp at h)
            subst hA
            have hbb' : bb < W.heap.size := Nat.lt_of_lt_of_le hbb hBW
            have y1 := Qt.cell HGW.out hbb' (show W.cell? ⟨bb, oo + k * 4 + 1, none⟩ = some (.string (str t.pat.text)) from by rw [Nat.add_assoc]; exact ff _ _ (hv 1 _ (by omega) rfl))
            have y2 := Qt.cell HGW.out hbb' (show W.cell? ⟨bb, oo + k * 4 + 2, none⟩ = some (.string (str t.pat.set)) from by rw [Nat.add_assoc]; exact ff _ _ (hv 2 _ (by omega) rfl))
            have y3 := Qt.cell HGW.out hbb' (show W.cell? ⟨bb, oo + k * 4 + 3, none⟩ = some (.bool t.pat.many) from by rw [Nat.add_assoc]; exact ff _ _ (hv 3 _ (by omega) rfl))
            have hzz := HS.out.tok t (List.mem_of_getElem? ht)
            have K1 := Lib.hid (KX.out t.pat hzz.2.1 hzz.2.2)
            have K2 := Lib.hid (KY.out t.pat hzz.2.1 hzz.2.2)
            unfold patV at K1 K2
            generalize str t.pat.text = X1 at y1 K1 K2
            generalize str t.pat.set = X2 at y2 K1 K2
            generalize t.pat.many = X3 at y3 K1 K2
            generalize str (Pr.pattern t.pat) = XP at K1 K2
            have u4 : (XP.toList != XP.toList) = false := by simp
            have u5 : (XP.toList == XP.toList) = true := by simp
            have hki : (k : Int) < (n1 : Int) := by omega
            have hk0 : (0 : Int) ≤ (k : Int) := by omega
            clear ht hv hbb ff hzz
            go_wp2_with fail
            refine Qt.start HGW.out (by kernel_rfl) (by kernel_rfl) ?_
            repeat (go_big_quiet_step (first | with_reducible exact K1.out _ | with_reducible exact K2.out _))
            refine wpQuiet_nil ?_
            intro _ hw'
            obtain ⟨y, hw''⟩ := hw'
            subst hw''
            go_wp2_with fail
            go_roundw
            case rel => exact ⟨k + 1, y, by omega, by go_num, rfl⟩
            case measure => simp [intOf]; omega
          · obtain rfl : n1 = k := by omega
            cases R <;>
              (go_wp2_with fail
               refine (KS.out _).mono ?_
               rintro e w1 ⟨rfl, y, rfl⟩
               go_wp2_with fail
               go_ret
               exact ⟨rfl, HBB.out _⟩)
end Go.Proofs.YtpgmapjjjpcmfaaGreatDoor
