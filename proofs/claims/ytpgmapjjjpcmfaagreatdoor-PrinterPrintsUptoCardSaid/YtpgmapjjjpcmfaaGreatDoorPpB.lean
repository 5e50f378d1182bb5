import Derived.Test.YtpgmapjjjpcmfaaGreatDoorPpA
import Derived.Test.YtpgmapjjjpcmfaaGreatDoorNmF
import Derived.Test.YtpgmapjjjpcmfaaGreatDoorQt
namespace Go.Proofs.YtpgmapjjjpcmfaaGreatDoor
open Go.RowKit
open Lx
set_option linter.unusedVariables false
set_option linter.unusedSimpArgs false
set_option maxRecDepth 100000
theorem Qt.calls_at7 {P : Program} {f : FuncId} {args : Array Value} {v : Value} {B : Nat} {W : World} {G : World → World} (hG : Qt.Class B W G) (h : ∀ x, Calls P f args (G x) fun e w' => e = .returned v ∧ Below (G x).heap.size (G x) w') :
  ∀ x, Calls P f args (G x) fun e w'' => e = .returned v ∧ ∃ y, w'' = G y :=
 fun x => (h x).mono fun _ _ ⟨he, hb⟩ => ⟨he, hG.onto _ ((hG.below x).trans (hb.mono (Nat.le_trans hG.le (hG.below x).size)))⟩
theorem acc7 {α : Type} (B : ByteArray) (f : α → List UInt8) {l : List α} {k : Nat} {x : α} (h : l[k]? = some x) : B ++ str ((l.take (k + 1)).flatMap f) = (B ++ str ((l.take k).flatMap f)) ++ str (f x) := by
 rw [List.take_add_one, h]
 simp only [Option.toList_some, List.flatMap_append, List.flatMap_cons, List.flatMap_nil, List.append_nil, str_app7, ByteArray.append_assoc]
theorem flat_len7 {α : Type} (f : α → List UInt8) (c : Nat) : ∀ l : List α, (∀ x ∈ l, (f x).length ≤ c) → (l.flatMap f).length ≤ l.length * c
 | [], _ => by simp
 | x :: r, h => by
  have h1 := flat_len7 f c r (fun y hy => h y (List.mem_cons_of_mem _ hy))
  have h2 := h x List.mem_cons_self
  simp only [List.flatMap_cons, List.length_append, List.length_cons, Nat.add_mul, Nat.one_mul]
  omega
theorem acc_len7 {α : Type} (B : ByteArray) (f : α → List UInt8) (c m M : Nat) {l : List α} (k : Nat) (hc : ∀ x ∈ l, (f x).length ≤ c) (hl : l.length ≤ m) (hB : B.size + m * c ≤ M) : (B ++ str ((l.take k).flatMap f)).size ≤ M := by
 have h1 := flat_len7 f c (l.take k) (fun x hx => hc x (List.mem_of_mem_take hx))
 have h2 : (l.take k).length ≤ m := Nat.le_trans (by rw [List.length_take]; exact Nat.min_le_right _ _) hl
 have h3 := Nat.mul_le_mul_right c h2
 rw [ByteArray.size_append, ← bl_length (str _), bl_str]
 omega
theorem tok_str7 (t : Rd.Tok) : str (Pr.tokT t) = ⟨#[37, 116, 111, 107, 101, 110, 32]⟩ ++ str t.name ++ ⟨#[32]⟩ ++ str (Pr.pattern t.pat) ++ ⟨#[10]⟩ := by
 unfold Pr.tokT
 rw [show ([37, 116, 111, 107, 101, 110, 32] ++ (t.name ++ (32 :: (Pr.pattern t.pat ++ [10]))) : List UInt8) = ((([37, 116, 111, 107, 101, 110, 32] ++ t.name) ++ [32]) ++ Pr.pattern t.pat) ++ [10] by simp, str_app7, str_app7, str_app7, str_app7]; rfl
theorem skip_str7 (p : Rd.Pat) : str (Pr.skipT p) = ⟨#[37, 115, 107, 105, 112, 32]⟩ ++ str (Pr.pattern p) ++ ⟨#[10]⟩ := by
 unfold Pr.skipT
 rw [show ([37, 115, 107, 105, 112, 32] ++ (Pr.pattern p ++ [10]) : List UInt8) = ([37, 115, 107, 105, 112, 32] ++ Pr.pattern p) ++ [10] by simp, str_app7, str_app7]; rfl
theorem lev_str7 (v : Rd.Lev) : str (Pr.levT v) = str (37 :: Pr.levW v.assoc) ++ str (Pr.rowT v.names) ++ ⟨#[10]⟩ := by
 unfold Pr.levT
 rw [show (37 :: (Pr.levW v.assoc ++ (Pr.rowT v.names ++ [10])) : List UInt8) = ((37 :: Pr.levW v.assoc) ++ Pr.rowT v.names) ++ [10] by simp, str_app7, str_app7]; rfl
theorem mid_str7 (s : Rd.Name) : str (Pr.midT s) = ⟨#[37, 115, 116, 97, 114, 116, 32]⟩ ++ str s ++ ⟨#[10, 37, 37, 10]⟩ := by
 unfold Pr.midT
 rw [show ([37, 115, 116, 97, 114, 116, 32] ++ (s ++ [10, 37, 37, 10]) : List UInt8) = ([37, 115, 116, 97, 114, 116, 32] ++ s) ++ [10, 37, 37, 10] by simp, str_app7, str_app7]; rfl
theorem pattern_len7 {p : Rd.Pat} (h1 : p.text.length ≤ 100000) (h2 : p.set.length ≤ 100000) : (Pr.pattern p).length ≤ 200010 := by
 unfold Pr.pattern
 have a1 := Pr.esc_len Pr.inText p.text
 have a2 := Pr.esc_len Pr.inSet p.set
 split
 ·simp only [List.length_cons, List.length_append]
  split <;> simp <;> omega
 ·simp only [List.length_cons, List.length_append, List.length_nil]; omega
structure Sz7 (G : Rd.G) : Prop where
 tok : ∀ t ∈ G.toks, t.name.length ≤ 100000 ∧ t.pat.text.length ≤ 100000 ∧ t.pat.set.length ≤ 100000
 skip : ∀ t ∈ G.skips, t.text.length ≤ 100000 ∧ t.set.length ≤ 100000
 lev : ∀ t ∈ G.levels, t.names.length ≤ 100000 ∧ ∀ n ∈ t.names, n.length ≤ 100000
 start : G.start.length ≤ 10000000
 rul : ∀ r ∈ G.rules, r.left.length ≤ 100000 ∧ r.prec.length ≤ 100000 ∧ r.action.length ≤ 100000 ∧ r.right.length ≤ 100000 ∧ ∀ n ∈ r.right, n.length ≤ 100000
set_option maxHeartbeats 4000000 in
theorem rprint7_any (v : Value) (G : Rd.G) (B : Nat) (w : World) (h : GramC w B v G) (hB : B ≤ w.heap.size) (hs : Sz G) (hz : Sz7 G) (hN : (Pr.lvl G).length ≤ 1000000) :
    Calls Tryz.prog 8 #[v] w fun e w' => e = .returned (printV G) ∧ Below w.heap.size w w' := by
  have HRT := Lib.hid (show ∀ w', Below w.heap.size w w' → Calls Tryz.prog 14 #[v] w' fun e w'' => e = .returned (.bool (Pr.rightB G)) ∧ Below w'.heap.size w' w'' from fun w' hw' => rright7_any v G B w' (h.below (hw'.mono hB)) (Nat.le_trans hB hw'.size) hs hN)
  obtain ⟨A1, c1, A2, c2, A3, c3, A4, c4, pl, ql, rfl, k1, k2, k3, k4, k5, k6, k7, k8⟩ := h.ex
  have HL4 := Lib.hid (show RulsC w B A4 G.rules from ⟨ql, k6, k7, k8⟩)
  have HL1 := Lib.hid k1
  have HL2 := Lib.hid k2
  have HL3 := Lib.hid (show (∀ x ∈ G.levels, 1 ≤ x.assoc) → LevsA w B A3 G.levels from fun ha => ⟨pl, k3, k4, fun p hp => (k5 p hp).2, fun p hp => by
    have h1 := (k5 p hp).1
    have h2 := ha p.1 (by rw [← k4]; exact List.mem_map.2 ⟨p, hp, rfl⟩)
    rw [h1] at h2 ⊢
    exact encA_of h2⟩)
  have HSZ := Lib.hid hz
  clear k1 k2 k3 k4 k5 k6 k7 k8 h hs hN
  obtain ⟨st, hst⟩ : ∃ st, str G.start = st := ⟨_, rfl⟩
  obtain ⟨n1, hn1⟩ : ∃ n, G.toks.length = n := ⟨_, rfl⟩
  obtain ⟨n2, hn2⟩ : ∃ n, G.skips.length = n := ⟨_, rfl⟩
  obtain ⟨n3, hn3⟩ : ∃ n, G.levels.length = n := ⟨_, rfl⟩
  obtain ⟨n4, hn4⟩ : ∃ n, G.rules.length = n := ⟨_, rfl⟩
  rw [hst, hn1, hn2, hn3, hn4] at HRT ⊢
  have hst9 : st.size ≤ 10000000 := by rw [bl_len7 hst]; exact hz.start
  have HST := Lib.hid hst
  have HN1 := Lib.hid hn1
  have HN2 := Lib.hid hn2
  have HN3 := Lib.hid hn3
  have HN4 := Lib.hid hn4
  have hb := (Below.refl w.heap.size w).alloc (Nat.le_refl _) (.cells #[.slice A1 n1 c1, .slice A2 n2 c2, .slice A3 n3 c3, .string st, .slice A4 n4 c4] 27)
  have hat := At.new w 27 #[.slice A1 n1 c1, .slice A2 n2 c2, .slice A3 n3 c3, .string st, .slice A4 n4 c4]
  obtain ⟨W, hW⟩ : ∃ W, w.alloc (.cells #[.slice A1 n1 c1, .slice A2 n2 c2, .slice A3 n3 c3, .string st, .slice A4 n4 c4] 27) = W := ⟨_, rfl⟩
  rw [hW] at hb hat
  have HW := Lib.hid hW
  have HB0 := Lib.hid hb
  obtain ⟨g, hg⟩ : ∃ g, w.heap.size = g := ⟨_, rfl⟩
  have HG := Lib.hid hg
  rw [hg] at hat
  obtain ⟨GW, hGW⟩ := Qt.class_of W.heap.size W (Nat.le_refl _)
  obtain ⟨xw, hxw⟩ := hGW.onto W (Below.refl _ _)
  have HXW := Lib.hid hxw
  have HGW := Lib.hid hGW
  have HBB := Lib.hid (fun x => hb.trans ((hGW.below x).mono hb.size))
  have KR := Lib.hid (Qt.calls_at7 hGW fun x => HRT.out (GW x) (HBB.out x))
  have hgl := hat.lt
  have hBW : B ≤ W.heap.size := Nat.le_trans hB hb.size
  have p0 := hat.cell 0
  have p1 := hat.cell 1
  have p2 := hat.cell 2
  have p3 := hat.cell 3
  have p4 := hat.cell 4
  simp only [List.getElem?_toArray, List.getElem?_cons_zero, List.getElem?_cons_succ] at p0 p1 p2 p3 p4
  have q0 := Qt.cell hGW hgl p0
  have q1 := Qt.cell hGW hgl p1
  have q2 := Qt.cell hGW hgl p2
  have q3 := Qt.cell hGW hgl p3
  have q4 := Qt.cell hGW hgl p4
  have KP := Lib.hid (fun (p : Rd.Pat) (h1 : p.text.length ≤ 100000) (h2 : p.set.length ≤ 100000) => Qt.calls hGW fun w' => rpattern7_any p w' h1 h2)
  have HC := Lib.hid (fun (A : Option Addr) (xs : List Value) (h : Cl w B A xs) => h.below (hb.mono hB))
  have HR := Lib.hid (HL4.out.below (hb.mono hB))
  have HL := Lib.hid (fun ha => (HL3.out ha).below (hb.mono hB))
  have HPV := Lib.hid (show printV G = _ from rfl)
  obtain ⟨R, hR⟩ : ∃ R, Pr.rightB G = R := ⟨_, rfl⟩
  have HRR := Lib.hid hR
  rw [hR] at KR
  obtain ⟨PV, hPV⟩ : ∃ x, printV G = x := ⟨_, rfl⟩
  rw [hPV]
  have HPW := Lib.hid hPV
  clear hst hn1 hn2 hn3 hn4 hb hat hW hg hGW hxw hgl p0 p1 p2 p3 p4 hz HRT HPV hR hPV
  go_enter Tryz.func8, Tryz.ntmps8
  go_wp2_with fail
  rw [HW.out, HG.out, HXW.out]
  refine (KR.out xw).mono ?_
  rintro e w1 ⟨rfl, y, rfl⟩
  cases R with
  | false =>
    go_wp2_with fail
    go_ret2
    exact ⟨by rw [← HPW.out]; unfold printV; rw [if_neg (by rw [HRR.out]; decide)]; rfl, HBB.out _⟩
  | true =>
    have HRI := Lib.hid ((Pr.rightB_iff G).1 HRR.out)
    have b1 : n1 ≤ 20 := HN1.out ▸ HRI.out.ntok
    have b2 : n2 ≤ 4 := HN2.out ▸ HRI.out.nskip
    have b3 : n3 ≤ 10 := HN3.out ▸ HRI.out.nlev
    have b4 : n4 ≤ 40 := HN4.out ▸ HRI.out.nrule
    go_wp2_with fail
    have HBD1 := Lib.hid (fun k => acc_len7 ⟨#[]⟩ Pr.tokT 400000 20 8000000 (l := G.toks) k (fun t ht => by
      have h1 := HSZ.out.tok t ht
      have h2 := pattern_len7 h1.2.1 h1.2.2
      unfold Pr.tokT
      simp only [List.length_append, List.length_cons, List.length_nil]; omega) HRI.out.ntok (by decide))
    go_loopw [5, 6] (fun s i wr => ∃ (k : Nat) (S : ByteArray) (x : World), k ≤ n1 ∧ i = .int .i64 (k : Int) ∧ s = .string S ∧ S = ⟨#[]⟩ ++ str ((G.toks.take k).flatMap Pr.tokT) ∧ wr = GW x) (fun _ i _ => n1 - (intOf i).toNat)
    case atStart => exact ⟨0, _, y, by omega, rfl, rfl, by rfl, rfl⟩
    case round =>
      obtain ⟨k, S, x, hk, rfl, rfl, hS, rfl⟩ := hrel
      have HS := Lib.hid hS
      have hz9 : S.size ≤ 8000000 := by rw [hS]; exact HBD1.out k
      clear hS
      by_cases hlt : k < n1
      · obtain ⟨t, ht⟩ := some_get (l := G.toks) (i := k) (by rw [HN1.out]; exact hlt)
        have hst := acc7 ⟨#[]⟩ Pr.tokT ht
        rw [← HS.out, tok_str7] at hst
        have hv := fun j u (hj : j < 4) (hu : t.cells[j]? = some u) => flat_get Rd.Tok.cells 4 (fun _ => rfl) G.toks k j t u ht hj hu
        have hne : toksV G.toks ≠ [] := fun e => by
          have h : (toksV G.toks)[k * 4 + 0]? = some (.string (str t.name)) := hv 0 _ (by omega) rfl
          rw [e] at h; simp at h
        obtain ⟨bb, oo, hA, hbb, ff⟩ := (HC.out _ _ HL1.out).ex hne
        subst hA
        have hbb' : bb < W.heap.size := Nat.lt_of_lt_of_le hbb hBW
        have y0 := Qt.cell HGW.out hbb' (show W.cell? ⟨bb, oo + k * 4, none⟩ = some (.string (str t.name)) from ff _ _ (hv 0 _ (by omega) rfl))
        have y1 := Qt.cell HGW.out hbb' (show W.cell? ⟨bb, oo + k * 4 + 1, none⟩ = some (.string (str t.pat.text)) from by rw [Nat.add_assoc]; exact ff _ _ (hv 1 _ (by omega) rfl))
        have y2 := Qt.cell HGW.out hbb' (show W.cell? ⟨bb, oo + k * 4 + 2, none⟩ = some (.string (str t.pat.set)) from by rw [Nat.add_assoc]; exact ff _ _ (hv 2 _ (by omega) rfl))
        have y3 := Qt.cell HGW.out hbb' (show W.cell? ⟨bb, oo + k * 4 + 3, none⟩ = some (.bool t.pat.many) from by rw [Nat.add_assoc]; exact ff _ _ (hv 3 _ (by omega) rfl))
        have hzz := HSZ.out.tok t (List.mem_of_getElem? ht)
        have K1 := Lib.hid (KP.out t.pat hzz.2.1 hzz.2.2)
        have hx0 : (str t.name).size ≤ 100000 := by rw [← bl_length, bl_str]; exact hzz.1
        have hxp : (str (Pr.pattern t.pat)).size ≤ 200010 := by rw [← bl_length, bl_str]; exact pattern_len7 hzz.2.1 hzz.2.2
        unfold patV at K1
        generalize str t.name = X0 at y0 hst hx0
        generalize str t.pat.text = X1 at y1 K1
        generalize str t.pat.set = X2 at y2 K1
        generalize t.pat.many = X3 at y3 K1
        generalize str (Pr.pattern t.pat) = XP at K1 hst hxp
        have HNX := Lib.hid hst
        have hki : (k : Int) < (n1 : Int) := by omega
        have hk0 : (0 : Int) ≤ (k : Int) := by omega
        have m1 : ¬ 9223372036854775807 < S.size + 7 := by omega
        have m2 : ¬ 9223372036854775807 < S.size + 7 + X0.size := by omega
        have m3 : ¬ 9223372036854775807 < S.size + 7 + X0.size + 1 := by omega
        have m4 : ¬ 9223372036854775807 < S.size + 7 + X0.size + 1 + XP.size := by omega
        have m5 : ¬ 9223372036854775807 < S.size + 7 + X0.size + 1 + XP.size + 1 := by omega
        clear ht hst hv hne hbb ff hzz hx0 hxp
        go_wp2_with fail
        refine Qt.start HGW.out (by kernel_rfl) (by kernel_rfl) ?_
        repeat (go_big_quiet_step (first | with_reducible exact K1.out _))
        refine wpQuiet_nil ?_
        intro _ hw'
        obtain ⟨y, hw''⟩ := hw'
        subst hw''
        go_wp2_with fail
        go_roundw
        case rel => exact ⟨k + 1, _, y, by omega, by go_num, rfl, by rw [HNX.out]; simp only [ByteArray.append_assoc], rfl⟩
        case measure => simp [intOf]; omega
      · obtain rfl : n1 = k := by omega
        have HS1 := Lib.hid (show S = str (G.toks.flatMap Pr.tokT) by
          have h := HS.out
          rw [← HN1.out, List.take_length] at h
          rw [h, show (⟨#[]⟩ : ByteArray) = str [] from rfl, ← str_app7]; rfl)
        clear HS HBD1
        have HBD2 := Lib.hid (fun k => acc_len7 S Pr.skipT 300000 4 10000000 (l := G.skips) k (fun t ht => by
          have h1 := HSZ.out.skip t ht
          have h2 := pattern_len7 h1.1 h1.2
          unfold Pr.skipT
          simp only [List.length_append, List.length_cons, List.length_nil]; omega) HRI.out.nskip (by omega))
        go_wp2_with fail
        go_loopw [5, 7] (fun s i wr => ∃ (k : Nat) (S' : ByteArray) (x : World), k ≤ n2 ∧ i = .int .i64 (k : Int) ∧ s = .string S' ∧ S' = S ++ str ((G.skips.take k).flatMap Pr.skipT) ∧ wr = GW x) (fun _ i _ => n2 - (intOf i).toNat)
        case atStart => exact ⟨0, _, x, by omega, rfl, rfl, by rw [List.take_zero]; exact (app_nil7 S).symm, rfl⟩
        case round =>
          obtain ⟨k, S2, x, hk, rfl, rfl, hS, rfl⟩ := hrel
          have HS := Lib.hid hS
          have hz9 : S2.size ≤ 10000000 := by rw [hS]; exact HBD2.out k
          clear hS
          by_cases hlt : k < n2
          · obtain ⟨t, ht⟩ := some_get (l := G.skips) (i := k) (by rw [HN2.out]; exact hlt)
            have hst := acc7 S Pr.skipT ht
            rw [← HS.out, skip_str7] at hst
            have hv := fun j u (hj : j < 3) (hu : t.cells[j]? = some u) => flat_get Rd.Pat.cells 3 (fun _ => rfl) G.skips k j t u ht hj hu
            obtain ⟨bb, oo, hA, hbb, ff⟩ := (HC.out _ _ HL2.out).ex (fun e => by
              have h : (G.skips.flatMap Rd.Pat.cells)[k * 3 + 0]? = some (.string (str t.text)) := hv 0 _ (by omega) rfl
              rw [show G.skips.flatMap Rd.Pat.cells = patsV G.skips from rfl, e] at h; simp at h)
            subst hA
            have hbb' : bb < W.heap.size := Nat.lt_of_lt_of_le hbb hBW
            have y1 := Qt.cell HGW.out hbb' (show W.cell? ⟨bb, oo + k * 3, none⟩ = some (.string (str t.text)) from ff _ _ (hv 0 _ (by omega) rfl))
            have y2 := Qt.cell HGW.out hbb' (show W.cell? ⟨bb, oo + k * 3 + 1, none⟩ = some (.string (str t.set)) from by rw [Nat.add_assoc]; exact ff _ _ (hv 1 _ (by omega) rfl))
            have y3 := Qt.cell HGW.out hbb' (show W.cell? ⟨bb, oo + k * 3 + 2, none⟩ = some (.bool t.many) from by rw [Nat.add_assoc]; exact ff _ _ (hv 2 _ (by omega) rfl))
            have hzz := HSZ.out.skip t (List.mem_of_getElem? ht)
            have K1 := Lib.hid (KP.out t hzz.1 hzz.2)
            have hxp : (str (Pr.pattern t)).size ≤ 200010 := by rw [← bl_length, bl_str]; exact pattern_len7 hzz.1 hzz.2
            unfold patV at K1
            generalize str t.text = X1 at y1 K1
            generalize str t.set = X2 at y2 K1
            generalize t.many = X3 at y3 K1
            generalize str (Pr.pattern t) = XP at K1 hst hxp
            have HNX := Lib.hid hst
            have hki : (k : Int) < (n2 : Int) := by omega
            have hk0 : (0 : Int) ≤ (k : Int) := by omega
            have m1 : ¬ 9223372036854775807 < S2.size + 6 := by omega
            have m2 : ¬ 9223372036854775807 < S2.size + 6 + XP.size := by omega
            have m3 : ¬ 9223372036854775807 < S2.size + 6 + XP.size + 1 := by omega
            clear ht hst hv hbb ff hzz hxp
            go_wp2_with fail
            first
              | (refine (K1.out x).mono ?_
                 rintro e w2 ⟨rfl, y, rfl⟩)
              | (refine Qt.start HGW.out (by kernel_rfl) (by kernel_rfl) ?_
                 repeat (go_big_quiet_step (first | with_reducible exact K1.out _))
                 refine wpQuiet_nil ?_
                 intro _ hw'
                 obtain ⟨y, hw''⟩ := hw'
                 subst hw'')
            go_wp2_with fail
            go_roundw
            case rel => exact ⟨k + 1, _, y, by omega, by go_num, rfl, by rw [HNX.out]; simp only [ByteArray.append_assoc], rfl⟩
            case measure => simp [intOf]; omega
          · obtain rfl : n2 = k := by omega
            have HS2 := Lib.hid (show S2 = S ++ str (G.skips.flatMap Pr.skipT) by
              have h := HS.out
              rw [← HN2.out, List.take_length] at h
              exact h)
            clear HS HBD2
            have HBD3 := Lib.hid (fun k => acc_len7 S2 Pr.levT 10001000000 10 200000000000 (l := G.levels) k (fun t ht => by
              have h1 := HSZ.out.lev t ht
              have h2 := row_len7 t.names h1.2
              have h3 : (Pr.levW t.assoc).length ≤ 8 := by unfold Pr.levW; split <;> first | decide | (split <;> decide)
              unfold Pr.levT
              simp only [List.length_append, List.length_cons, List.length_nil]; omega) HRI.out.nlev (by omega))
            have hlev := fun v hv => HRI.out.levels v hv
            have HLV := Lib.hid (show ∀ v ∈ G.levels, v.assoc = 1 ∨ v.assoc = 2 ∨ v.assoc = 3 from fun v hv => by
              have h := hlev v hv
              unfold Pr.levOk at h
              simp only [Bool.and_eq_true, decide_eq_true_eq] at h
              omega)
            clear hlev
            have HLA := Lib.hid (HL.out (fun v hv => by have := HLV.out v hv; omega))
            go_wp2_with fail
            go_loopw [5, 8, 9, 10] (fun s i _ _ wr => ∃ (k : Nat) (S' : ByteArray) (x : World), k ≤ n3 ∧ i = .int .i64 (k : Int) ∧ s = .string S' ∧ S' = S2 ++ str ((G.levels.take k).flatMap Pr.levT) ∧ wr = GW x) (fun _ i _ _ _ => n3 - (intOf i).toNat)
            case atStart => exact ⟨0, _, x, by omega, rfl, rfl, by rw [List.take_zero]; exact (app_nil7 S2).symm, rfl⟩
            case round =>
              obtain ⟨k, S3, x, hk, rfl, rfl, hS, rfl⟩ := hrel
              have HS := Lib.hid hS
              have hz9 : S3.size ≤ 200000000000 := by rw [hS]; exact HBD3.out k
              clear hS
              by_cases hlt : k < n3
              · obtain ⟨t, ht⟩ := some_get (l := G.levels) (i := k) (by rw [HN3.out]; exact hlt)
                have hst := acc7 S2 Pr.levT ht
                rw [← HS.out, lev_str7] at hst
                obtain ⟨bb, oo, A', c', hA, hbb, z0, z1, hcl⟩ := HLA.out.get ht
                subst hA
                have hbb' : bb < W.heap.size := Nat.lt_of_lt_of_le hbb hBW
                have y0 := Qt.cell HGW.out hbb' z0
                have y1 := Qt.cell HGW.out hbb' z1
                have hzz := HSZ.out.lev t (List.mem_of_getElem? ht)
                have HZZ := Lib.hid hzz.2
                have has := HLV.out t (List.mem_of_getElem? ht)
                obtain ⟨m, hm⟩ : ∃ m, t.names.length = m := ⟨_, rfl⟩
                have hm9 : m ≤ 100000 := by rw [← hm]; exact hzz.1
                rw [hm] at y1
                have HM := Lib.hid hm
                have HCN := Lib.hid hcl
                have HNX := Lib.hid hst
                have hki : (k : Int) < (n3 : Int) := by omega
                have hk0 : (0 : Int) ≤ (k : Int) := by omega
                clear ht hst hbb z0 z1 hzz hm hcl
                obtain ⟨WD, hWD, hwz, HA9⟩ : ∃ WD : ByteArray, str (37 :: Pr.levW t.assoc) = WD ∧ WD.size ≤ 9 ∧ (((t.assoc : Int) = 1 ∧ WD = ⟨#[37, 108, 101, 102, 116]⟩) ∨ ((t.assoc : Int) = 2 ∧ WD = ⟨#[37, 114, 105, 103, 104, 116]⟩) ∨ ((t.assoc : Int) = 3 ∧ WD = ⟨#[37, 110, 111, 110, 97, 115, 115, 111, 99]⟩)) := by
                  rcases has with h | h | h <;> rw [h]
                  · exact ⟨_, rfl, by decide, .inl ⟨rfl, rfl⟩⟩
                  · exact ⟨_, rfl, by decide, .inr (.inl ⟨rfl, rfl⟩)⟩
                  · exact ⟨_, rfl, by decide, .inr (.inr ⟨rfl, rfl⟩)⟩
                rw [hWD] at HNX
                clear has hWD
                generalize (t.assoc : Int) = a9 at y0 HA9
                have HIN := Lib.hid (fun (S' : ByteArray) (hS' : S' = S3 ++ WD) (q : Nat) => show (S' ++ str (Pr.rowT (t.names.take q))).size ≤ 300000000000 by
                  have h1 := row_len7 (t.names.take q) (fun y hy => HZZ.out y (List.mem_of_mem_take hy))
                  have h2 : (t.names.take q).length ≤ m := Nat.le_trans (by rw [List.length_take]; exact Nat.min_le_right _ _) (Nat.le_of_eq HM.out)
                  rw [hS', ByteArray.size_append, ByteArray.size_append, ← bl_length (str _), bl_str]
                  omega)
                rcases HA9 with ⟨ha, hw⟩ | ⟨ha, hw⟩ | ⟨ha, hw⟩
                all_goals
                  rw [ha] at y0
                  have m1 : ¬ 9223372036854775807 < S3.size + WD.size := by omega
                  rw [hw] at m1
                  have m2 : ¬ 9223372036854775807 < S3.size + 5 := by omega
                  have m3 : ¬ 9223372036854775807 < S3.size + 6 := by omega
                  have m4 : ¬ 9223372036854775807 < S3.size + 9 := by omega
                  have HWD := Lib.hid hw
                  obtain ⟨D, hD⟩ : ∃ D, S3 ++ WD = D := ⟨_, rfl⟩
                  have HDD := Lib.hid hD
                  rw [hw] at hD
                  have HD := Lib.hid hD
                  clear hw ha
                  go_wp2_with fail
                  go_loopw [5, 10] (fun s j wr => ∃ (q : Nat) (SQ : ByteArray) (x : World), q ≤ m ∧ j = .int .i64 (q : Int) ∧ s = .string SQ ∧ SQ = D ++ str (Pr.rowT (t.names.take q)) ∧ wr = GW x) (fun _ j _ => m - (intOf j).toNat)
                  case atStart => exact ⟨0, _, x, by omega, rfl, by rfl, by rw [List.take_zero, ← HD.out]; exact (app_nil7 _).symm, rfl⟩
                  case round =>
                    obtain ⟨q, SQ, x, hq, rfl, rfl, hsq, rfl⟩ := hrel
                    have HSQ := Lib.hid hsq
                    have hqz : SQ.size ≤ 300000000000 := by rw [hsq]; exact HIN.out D HDD.out.symm q
                    clear hsq
                    by_cases hqm : q < m
                    · obtain ⟨y, hy⟩ := some_get (l := t.names) (i := q) (by rw [HM.out]; exact hqm)
                      obtain ⟨rb, ro, hR, hrb, u0⟩ := cl_get HCN.out hy
                      subst hR
                      have y5 := Qt.cell HGW.out (Nat.lt_of_lt_of_le hrb hBW) u0
                      have hsn : D ++ str (Pr.rowT (t.names.take (q + 1))) = SQ ++ ⟨#[32]⟩ ++ str y := by
                        rw [row_snoc7 hy, str_app7, str_app7, ← ByteArray.append_assoc, ← HSQ.out, ← ByteArray.append_assoc]; rfl
                      have hyl : (str y).size ≤ 100000 := by rw [← bl_length, bl_str]; exact HZZ.out y (List.mem_of_getElem? hy)
                      generalize str y = Y0 at y5 hsn hyl
                      have HSN := Lib.hid hsn
                      have hq2 : (q : Int) < (m : Int) := by omega
                      have hq0 : (0 : Int) ≤ (q : Int) := by omega
                      have r1 : ¬ 9223372036854775807 < SQ.size + 1 := by omega
                      have r2 : ¬ 9223372036854775807 < SQ.size + 1 + Y0.size := by omega
                      clear hy hrb u0 hsn
                      go_wp2_with fail
                      go_roundw
                      case rel => exact ⟨q + 1, _, x, by omega, by go_num, rfl, HSN.out.symm, rfl⟩
                      case measure => simp [intOf]; omega
                    · obtain rfl : m = q := by omega
                      have r1 : ¬ 9223372036854775807 < SQ.size + 1 := by omega
                      have HFI := Lib.hid (show SQ ++ ⟨#[10]⟩ = S2 ++ str ((G.levels.take (k + 1)).flatMap Pr.levT) by
                        rw [HNX.out, HSQ.out, ← HM.out, List.take_length, ← HDD.out]
                        simp only [ByteArray.append_assoc])
                      go_wp2_with fail
                      go_roundw
                      case rel => exact ⟨k + 1, _, x, by omega, by go_num, rfl, HFI.out, rfl⟩
                      case measure => simp [intOf]; omega
              · obtain rfl : n3 = k := by omega
                have HS3 := Lib.hid (show S3 = S2 ++ str (G.levels.flatMap Pr.levT) by
                  have h := HS.out
                  rw [← HN3.out, List.take_length] at h
                  exact h)
                clear HS HBD3
                have HBM := Lib.hid (show S3 ++ ⟨#[37, 115, 116, 97, 114, 116, 32]⟩ ++ st ++ ⟨#[10, 37, 37, 10]⟩ = S3 ++ str (Pr.midT G.start) by rw [mid_str7, HST.out]; simp only [ByteArray.append_assoc])
                obtain ⟨D, hD⟩ : ∃ D, S3 ++ ⟨#[37, 115, 116, 97, 114, 116, 32]⟩ ++ st ++ ⟨#[10, 37, 37, 10]⟩ = D := ⟨_, rfl⟩
                rw [hD] at HBM
                have hDz : D.size ≤ 200011000000 := by
                  rw [← hD]
                  simp only [ByteArray.size_append]
                  have e1 : (⟨#[37, 115, 116, 97, 114, 116, 32]⟩ : ByteArray).size = 7 := rfl
                  have e2 : (⟨#[10, 37, 37, 10]⟩ : ByteArray).size = 4 := rfl
                  omega
                have HD := Lib.hid hD
                have m1 : ¬ 9223372036854775807 < S3.size + 7 := by omega
                have m2 : ¬ 9223372036854775807 < S3.size + 7 + st.size := by omega
                have m3 : ¬ 9223372036854775807 < S3.size + 7 + st.size + 4 := by omega
                clear hD
                have HBD5 := Lib.hid (fun k => acc_len7 D (fun r => Pr.ruleT r ++ [10]) 10001000000 40 700000000000 (l := G.rules) k (fun r hr => by
                  obtain ⟨z1, z2, z3, z4, z5⟩ := HSZ.out.rul r hr
                  have h2 := row_len7 r.right z5
                  have h3 : (Pr.precT r.prec).length ≤ 100007 := by unfold Pr.precT; split <;> simp <;> omega
                  have h4 : (Pr.actT r.action).length ≤ 100003 := by unfold Pr.actT; split <;> simp <;> omega
                  unfold Pr.ruleT
                  simp only [List.length_append, List.length_cons, List.length_nil]; omega) HRI.out.nrule (by omega))
                go_wp2_with fail
                go_loopw [5, 11] (fun s i wr => ∃ (k : Nat) (S' : ByteArray) (x : World), k ≤ n4 ∧ i = .int .i64 (k : Int) ∧ s = .string S' ∧ S' = D ++ str ((G.rules.take k).flatMap fun r => Pr.ruleT r ++ [10]) ∧ wr = GW x) (fun _ i _ => n4 - (intOf i).toNat)
                case atStart => exact ⟨0, _, x, by omega, rfl, rfl, by rw [List.take_zero, ← HD.out]; exact (app_nil7 _).symm, rfl⟩
                case round =>
                  obtain ⟨k, S5, x, hk, rfl, rfl, hS, rfl⟩ := hrel
                  have HS := Lib.hid hS
                  have hz9 : S5.size ≤ 700000000000 := by rw [hS]; exact HBD5.out k
                  clear hS
                  by_cases hlt : k < n4
                  · obtain ⟨t, ht⟩ := some_get (l := G.rules) (i := k) (by rw [HN4.out]; exact hlt)
                    have hst := acc7 D (fun r => Pr.ruleT r ++ [10]) ht
                    rw [← HS.out, str_app7] at hst
                    obtain ⟨bb, oo, A', c', hA, hbb, z0, z1, z2, z3, hcl⟩ := HR.out.get ht
                    subst hA
                    have hbb' : bb < W.heap.size := Nat.lt_of_lt_of_le hbb hBW
                    have y0 := Qt.cell HGW.out hbb' z0
                    have y1 := Qt.cell HGW.out hbb' z1
                    have y2 := Qt.cell HGW.out hbb' z2
                    have y3 := Qt.cell HGW.out hbb' z3
                    have hzz := HSZ.out.rul t (List.mem_of_getElem? ht)
                    have K1 := Lib.hid (Qt.calls_at7 HGW.out fun x => rrule7_any t A' c' B (GW x) (hcl.below ((HGW.out.below x).mono hBW)) (Nat.le_trans hBW (HGW.out.below x).size) hzz)
                    have hxp : (str (Pr.ruleT t)).size ≤ 10001000000 := by
                      obtain ⟨w1, w2, w3, w4, w5⟩ := hzz
                      have h2 := row_len7 t.right w5
                      have h3 : (Pr.precT t.prec).length ≤ 100007 := by unfold Pr.precT; split <;> simp <;> omega
                      have h4 : (Pr.actT t.action).length ≤ 100003 := by unfold Pr.actT; split <;> simp <;> omega
                      rw [← bl_length, bl_str]
                      unfold Pr.ruleT
                      simp only [List.length_append, List.length_cons, List.length_nil]; omega
                    generalize str t.left = X0 at y0 K1
                    generalize t.right.length = XL at y1 K1
                    generalize str t.prec = X2 at y2 K1
                    generalize str t.action = X3 at y3 K1
                    generalize str (Pr.ruleT t) = XP at K1 hst hxp
                    have HNX := Lib.hid hst
                    have hki : (k : Int) < (n4 : Int) := by omega
                    have hk0 : (0 : Int) ≤ (k : Int) := by omega
                    have r1 : ¬ 9223372036854775807 < S5.size + XP.size := by omega
                    have r2 : ¬ 9223372036854775807 < S5.size + XP.size + 1 := by omega
                    clear ht hst hbb z0 z1 z2 z3 hcl hzz hxp
                    go_wp2_with fail
                    refine (K1.out x).mono ?_
                    rintro e w2 ⟨rfl, y, rfl⟩
                    go_wp2_with fail
                    go_roundw
                    case rel => exact ⟨k + 1, _, y, by omega, by go_num, rfl, by rw [HNX.out]; simp only [ByteArray.append_assoc]; rfl, rfl⟩
                    case measure => simp [intOf]; omega
                  · obtain rfl : n4 = k := by omega
                    have HTX := Lib.hid (show str (Pr.text G) = S5 by
                      rw [HS.out, ← HN4.out, List.take_length, HBM.out, HS3.out, HS2.out, HS1.out]
                      unfold Pr.text Pr.rulesT
                      simp only [str_app7, ByteArray.append_assoc])
                    have hlen : (Pr.text G).length = S5.size := by rw [← HTX.out, ← bl_length, bl_str]
                    by_cases h4 : 4000 < S5.size
                    · have HPX := Lib.hid (show PV = .tuple #[.string (str []), .int .i64 12] by
                        rw [← HPW.out]; unfold printV; rw [if_pos HRR.out, if_pos (by rw [hlen]; exact h4)])
                      have h5 : (4000 : Int) < (S5.size : Int) := by omega
                      clear hlen
                      go_wp2_with fail
                      go_ret2
                      exact ⟨by rw [HPX.out]; rfl, HBB.out _⟩
                    · have HPX := Lib.hid (show PV = .tuple #[.string S5, .int .i64 0] by
                        rw [← HPW.out]; unfold printV; rw [if_pos HRR.out, if_neg (by rw [hlen]; exact h4), HTX.out])
                      have h5 : ¬ (4000 : Int) < (S5.size : Int) := by omega
                      clear hlen
                      go_wp2_with fail
                      go_ret2
                      exact ⟨by rw [HPX.out]; rfl, HBB.out _⟩
end Go.Proofs.YtpgmapjjjpcmfaaGreatDoor
