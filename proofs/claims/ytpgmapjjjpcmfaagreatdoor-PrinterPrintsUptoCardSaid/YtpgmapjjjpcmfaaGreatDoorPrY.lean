/-
  The walks of printer's ruleCan, tokenNames, levelNames, fits.
  The walk of printer.Right.
-/
import Derived.Test.YtpgmapjjjpcmfaaGreatDoorPrX
namespace Go.Proofs.YtpgmapjjjpcmfaaGreatDoor
open Go.RowKit
open Lx
set_option linter.unusedVariables false
set_option linter.unusedSimpArgs false
set_option maxRecDepth 100000

theorem empty_dec (l : List UInt8) : ((str l).toList == (⟨#[]⟩ : ByteArray).toList) = decide (l = []) := by
  rw [show (⟨#[]⟩ : ByteArray) = str [] from rfl, str_same]
  cases l <;> rfl
theorem cells_new2 (w : World) (ob : Obj) (cs : List Value) (t : TypeId) : ∀ j u, cs[j]? = some u → ((w.alloc ob).alloc (.cells cs.toArray t)).cell? ((⟨w.heap.size + 1, 0, none⟩ : Addr).add j) = some u := by
  have h := cells_new (w.alloc ob) cs t
  rw [show (w.alloc ob).heap.size = w.heap.size + 1 by simp] at h
  exact h
theorem isEmpty_dec (l : List UInt8) : (str l).toList.isEmpty = decide (l = []) := by
  rw [toList_eq, bl_str]; cases l <;> rfl

set_option maxHeartbeats 2000000 in
theorem ruleCan_any (x : Rd.Rule) (A : Option Addr) (cap B : Nat) (w : World) (hl : Cl w B A (namesV x.right)) (hB : B ≤ w.heap.size) (hT : Tab w) (h0 : 1 < w.heap.size)
    (hs : x.left.length ≤ 140737488355328 ∧ x.prec.length ≤ 140737488355328 ∧ x.action.length ≤ 140737488355328 ∧ x.right.length ≤ 140737488355328 ∧ ∀ n ∈ x.right, n.length ≤ 140737488355328) :
    Calls Tryz.prog 32 #[.agg #[.string (str x.left), .slice A x.right.length cap, .string (str x.prec), .string (str x.action)]] w fun e w' => e = .returned (.bool (Pr.ruleOk x)) ∧ Below w.heap.size w w' := by
  obtain ⟨left, right, prec, action⟩ := x
  simp only [] at hl hs ⊢
  obtain ⟨s1, s2, s3, s4, s5⟩ := hs
  have hb := (Below.refl w.heap.size w).alloc (Nat.le_refl _) (.cells #[.string (str left), .slice A right.length cap, .string (str prec), .string (str action)] 36)
  have HALL := Lib.hid (show ∀ w', Below w.heap.size w w' → Calls Tryz.prog 67 #[.slice A right.length cap, .func (.func 24) #[] #[]] w' fun e w'' => e = .returned (.bool (right.all Pr.nameOk)) ∧ Below w'.heap.size w' w'' from fun w' hw' =>
    allStr right Pr.nameOk B A cap w' (hl.below (hw'.mono hB)) (Nat.le_trans hB hw'.size) s4 (fun x hxl w2 _ _ => (isName_any x w2 (by have := s5 x hxl; omega)).mono fun e w3 ⟨h1, h2⟩ => ⟨h1, h2 ▸ Below.refl _ _⟩))
  have HACT := Lib.hid (show ∀ w', Below w.heap.size w w' → Calls Tryz.prog 70 #[.string (str action)] w' fun e w'' => e = .returned (.bool (Pr.actOk action)) ∧ Below w'.heap.size w' w'' from fun w' hw' => actionCan_any action w' s3 (hT.below hw' h0) (by have := hw'.size; omega))
  have HL := Lib.hid (fun w => isName_any left w (by omega))
  have HP := Lib.hid (fun w => isName_any prec w (by omega))
  have HB := Lib.hid hb
  have hpe := empty_dec prec
  have hpi := isEmpty_dec prec
  have hpd : (prec == []) = decide (prec = []) := by cases prec <;> rfl
  unfold Pr.ruleOk
  simp only []
  rw [hpd]
  generalize decide (prec = []) = pe at hpe hpi ⊢
  generalize Pr.nameOk left = q1 at HL ⊢
  generalize Pr.nameOk prec = q4 at HP ⊢
  generalize right.all Pr.nameOk = q3 at HALL ⊢
  generalize Pr.actOk action = q5 at HACT ⊢
  obtain ⟨n, hnn⟩ : ∃ n, right.length = n := ⟨_, rfl⟩
  rw [hnn] at HALL HB s4 ⊢
  generalize str left = T1 at HL HB ⊢
  generalize str prec = T2 at HP HB hpe hpi ⊢
  generalize str action = T3 at HACT HB ⊢
  clear hl hB hT h0 hb hnn hpd s1 s2 s3 s5
  cases q1 with
  | false =>
    go_enter Tryz.func32, Tryz.ntmps32
    go_wp2_with fail
    refine (HL.out _).mono ?_
    rintro e w1 ⟨rfl, rfl⟩
    go_wp2_with fail
    go_ret
    exact ⟨rfl, HB.out⟩
  | true =>
    by_cases h8 : n ≤ 8
    rotate_left
    · have h8' : ¬ (n : Int) ≤ 8 := by omega
      have H8 := Lib.hid h8
      clear h8
      go_enter Tryz.func32, Tryz.ntmps32
      go_wp2_with fail
      refine (HL.out _).mono ?_
      rintro e w1 ⟨rfl, rfl⟩
      go_wp2_with fail
      go_ret
      exact ⟨by rw [decide_eq_false H8.out]; rfl, HB.out⟩
    have h8' : (n : Int) ≤ 8 := by omega
    rw [decide_eq_true h8]
    clear h8
    cases q3 with
    | false =>
      go_enter Tryz.func32, Tryz.ntmps32
      go_wp2_with fail
      refine (HL.out _).mono ?_
      rintro e w1 ⟨rfl, rfl⟩
      go_wp2_with fail
      refine (HALL.out _ HB.out).mono ?_
      rintro e w2 ⟨rfl, hb2⟩
      go_wp2_with fail
      go_ret
      exact ⟨rfl, HB.out.trans (hb2.mono HB.out.size)⟩
    | true =>
      cases pe with
      | true =>
        go_enter Tryz.func32, Tryz.ntmps32
        go_wp2_with fail
        refine (HL.out _).mono ?_
        rintro e w1 ⟨rfl, rfl⟩
        go_wp2_with fail
        refine (HALL.out _ HB.out).mono ?_
        rintro e w2 ⟨rfl, hb2⟩
        have HB2 := Lib.hid (HB.out.trans (hb2.mono HB.out.size))
        have hA := (HB.out.trans (hb2.mono HB.out.size)).size
        have k2 := ((At.new w 36 #[.string T1, .slice A n cap, .string T2, .string T3]).below hb2 (At.lt (At.new w 36 #[.string T1, .slice A n cap, .string T2, .string T3])))
        have c2 := k2.cell 2
        have c3 := k2.cell 3
        simp only [List.getElem?_toArray, List.getElem?_cons_zero, List.getElem?_cons_succ] at c2 c3
        clear hb2 k2
        go_wp2_with fail
        refine (HACT.out _ HB2.out).mono ?_
        rintro e w3 ⟨rfl, hb3⟩
        go_wp2_with fail
        go_ret
        exact ⟨rfl, HB2.out.trans (hb3.mono hA)⟩
      | false =>
        cases q4 with
        | false =>
          go_enter Tryz.func32, Tryz.ntmps32
          go_wp2_with fail
          refine (HL.out _).mono ?_
          rintro e w1 ⟨rfl, rfl⟩
          go_wp2_with fail
          refine (HALL.out _ HB.out).mono ?_
          rintro e w2 ⟨rfl, hb2⟩
          have HB2 := Lib.hid (HB.out.trans (hb2.mono HB.out.size))
          have k2 := ((At.new w 36 #[.string T1, .slice A n cap, .string T2, .string T3]).below hb2 (At.lt (At.new w 36 #[.string T1, .slice A n cap, .string T2, .string T3])))
          have c2 := k2.cell 2
          simp only [List.getElem?_toArray, List.getElem?_cons_zero, List.getElem?_cons_succ] at c2
          clear hb2 k2
          go_wp2_with fail
          refine (HP.out _).mono ?_
          rintro e w3 ⟨rfl, rfl⟩
          go_wp2_with fail
          go_ret
          exact ⟨rfl, HB2.out⟩
        | true =>
          go_enter Tryz.func32, Tryz.ntmps32
          go_wp2_with fail
          refine (HL.out _).mono ?_
          rintro e w1 ⟨rfl, rfl⟩
          go_wp2_with fail
          refine (HALL.out _ HB.out).mono ?_
          rintro e w2 ⟨rfl, hb2⟩
          have HB2 := Lib.hid (HB.out.trans (hb2.mono HB.out.size))
          have hA := (HB.out.trans (hb2.mono HB.out.size)).size
          have k2 := ((At.new w 36 #[.string T1, .slice A n cap, .string T2, .string T3]).below hb2 (At.lt (At.new w 36 #[.string T1, .slice A n cap, .string T2, .string T3])))
          have c2 := k2.cell 2
          have c3 := k2.cell 3
          simp only [List.getElem?_toArray, List.getElem?_cons_zero, List.getElem?_cons_succ] at c2 c3
          clear hb2 k2
          go_wp2_with fail
          refine (HP.out _).mono ?_
          rintro e w3 ⟨rfl, rfl⟩
          go_wp2_with fail
          refine (HACT.out _ HB2.out).mono ?_
          rintro e w3 ⟨rfl, hb3⟩
          go_wp2_with fail
          go_ret
          exact ⟨rfl, HB2.out.trans (hb3.mono hA)⟩

set_option maxHeartbeats 1000000 in
theorem tokenNames_any (toks : List Rd.Tok) (A1 : Option Addr) (c1 : Nat) (x1 x2 x3 x4 : Value) (B : Nat) (w : World) (hl : Cl w B A1 (toksV toks)) (hB : B ≤ w.heap.size) (hn : toks.length ≤ 1000000)
    (hx1 : ∃ A n c, x1 = .slice A n c) (hx2 : ∃ A n c, x2 = .slice A n c) (hx3 : ∃ s, x3 = .string s) (hx4 : ∃ A n c, x4 = .slice A n c) :
    Calls Tryz.prog 34 #[.agg #[.slice A1 toks.length c1, x1, x2, x3, x4]] w fun e w' => (∃ A cap, e = .returned (.slice A toks.length cap) ∧ Cl w' w'.heap.size A (namesV (toks.map Rd.Tok.name))) ∧ Below w.heap.size w w' := by
  obtain ⟨A2, n2, c2, rfl⟩ := hx1
  obtain ⟨A3, n3, c3, rfl⟩ := hx2
  obtain ⟨st, rfl⟩ := hx3
  obtain ⟨A4, n4, c4, rfl⟩ := hx4
  obtain ⟨i0, hi, hz0, hz1, hz2⟩ := info_parts strinfo
  have HL := Lib.hid hl
  obtain ⟨n, hnn⟩ : ∃ n, toks.length = n := ⟨_, rfl⟩
  rw [hnn] at hn ⊢
  have HN := Lib.hid hnn
  have HB0 := Lib.hid ((Below.refl w.heap.size w).alloc (Nat.le_refl _) (.cells #[.slice A1 n c1, .slice A2 n2 c2, .slice A3 n3 c3, .string st, .slice A4 n4 c4] 27))
  clear hl hnn
  go_enter Tryz.func34, Tryz.ntmps34
  go_wp2_with fail
  go_loopw [3, 9] (fun v i wr => ∃ (k : Nat) (a : Option Addr) (s : Nat), k ≤ n ∧ i = .int .i64 (k : Int) ∧ v = .slice a k s ∧ wr.ownsRow w.heap.size 9 1 v k (namesV ((toks.map Rd.Tok.name).take k)) ∧ Below w.heap.size w wr) (fun _ i _ => n - (intOf i).toNat)
  case atStart => exact ⟨0, none, 0, by omega, rfl, rfl, World.ownsRow_nil _ _ _ _, HB0.out⟩
  case round =>
    obtain ⟨k, a, s, hk, rfl, rfl, hown, hb⟩ := hrel
    have HO := Lib.hid hown
    have HB := Lib.hid hb
    have hsz := hb.size
    clear hown hb
    by_cases hlt : k < n
    · obtain ⟨x, ht⟩ := some_get (l := toks) (i := k) (by rw [HN.out]; exact hlt)
      obtain ⟨b, o, hA, hbl, hcell⟩ := (HL.out.below (HB.out.mono hB)).ex (fun e => by
        have h1 : (toksV toks)[k * 4 + 0]? = some (.string (str x.name)) := flat_get Rd.Tok.cells 4 (fun _ => rfl) toks k 0 x _ ht (by omega) rfl
        rw [e] at h1; simp at h1)
      subst hA
      have y0 : wr.cell? ⟨b, o + k * 4, none⟩ = some (.string (str x.name)) := hcell _ _ (flat_get Rd.Tok.cells 4 (fun _ => rfl) toks k 0 x _ ht (by omega) rfl)
      have y1 : wr.cell? ⟨b, o + k * 4 + 1, none⟩ = some (.string (str x.pat.text)) := by rw [Nat.add_assoc]; exact hcell _ _ (flat_get Rd.Tok.cells 4 (fun _ => rfl) toks k 1 x _ ht (by omega) rfl)
      have y2 : wr.cell? ⟨b, o + k * 4 + 2, none⟩ = some (.string (str x.pat.set)) := by rw [Nat.add_assoc]; exact hcell _ _ (flat_get Rd.Tok.cells 4 (fun _ => rfl) toks k 2 x _ ht (by omega) rfl)
      have y3 : wr.cell? ⟨b, o + k * 4 + 3, none⟩ = some (.bool x.pat.many) := by rw [Nat.add_assoc]; exact hcell _ _ (flat_get Rd.Tok.cells 4 (fun _ => rfl) toks k 3 x _ ht (by omega) rfl)
      have htk : namesV ((toks.map Rd.Tok.name).take (k + 1)) = namesV ((toks.map Rd.Tok.name).take k) ++ [.string (str x.name)] := by
        rw [List.take_add_one, List.getElem?_map, ht]; simp [namesV]
      have HTK := Lib.hid htk
      generalize str x.pat.text = X1 at y1
      generalize str x.pat.set = X2 at y2
      generalize x.pat.many = X3 at y3
      obtain ⟨X0, hX0⟩ : ∃ X0, str x.name = X0 := ⟨_, rfl⟩
      rw [hX0] at y0 HTK
      have hki : (k : Int) < (n : Int) := by omega
      have hk0 : (0 : Int) ≤ (k : Int) := by omega
      have hc3 : k + 1 ≤ maxLen := by unfold maxLen; omega
      have hc4 : (k + 1) * 16 ≤ 140737488355328 := by omega
      clear hcell ht htk hX0
      go_wp2_with (at_builtin; refine wpList_append_own2 _ rfl _ _ 34 rfl w.heap.size 9 i0 _ 1 16 Tryz.underlying34 hi hz0 hz1 hz2 rfl (by decide) _ _ _ rfl ((HO.out.alloc (.cells #[.string X0, .string X1, .string X2, .bool X3] 41)).alloc _) _ 1 1 [.string X0] rfl rfl (cells_new2 _ _ _ _) (by simp [Value.oneCell']) hc3 hc4 (by simp; omega) ?_)
      intro v' w2 hown' hg _
      obtain ⟨a7, s7, rfl⟩ := own_form hown'
      have HN2 := Lib.hid (show w2.ownsRow w.heap.size 9 1 (.slice a7 (k + 1) s7) (k + 1) (namesV ((toks.map Rd.Tok.name).take (k + 1))) by rw [HTK.out]; exact hown')
      have HB2 := Lib.hid (Below.grown ((HB.out.alloc hsz (.cells #[.string X0, .string X1, .string X2, .bool X3] 41)).alloc (by simp; omega) _) hg (by simp; omega) (fun j hj => (own_lt HO.out j hj).1))
      clear hown' hg
      go_wp2_with fail
      go_roundw
      case rel => exact ⟨k + 1, a7, s7, by omega, by go_num, rfl, HN2.out, HB2.out⟩
      case measure => simp [intOf]; omega
    · obtain rfl : n = k := by omega
      have hall : (toks.map Rd.Tok.name).take n = toks.map Rd.Tok.name := by rw [← HN.out, ← List.length_map (f := Rd.Tok.name), List.take_length]
      rw [hall] at HO
      go_wp2_with fail
      go_ret
      exact ⟨⟨a, s, rfl, (Lie.own HO.out).cl⟩, HB.out⟩

set_option maxHeartbeats 1000000 in
theorem levelNames_any (pl : List (Rd.Lev × Value × Int)) (A3 : Option Addr) (c3 : Nat) (x1 x2 x3 x4 : Value) (B : Nat) (w : World) (hl : Cl w B A3 (levsC pl)) (hv : ∀ p ∈ pl, NmC w B p.2.1 p.1.names) (hB : B ≤ w.heap.size) (hn : pl.length ≤ 1000000) (hm : (pl.flatMap fun p => p.1.names).length ≤ 1000000)
    (hx1 : ∃ A n c, x1 = .slice A n c) (hx2 : ∃ A n c, x2 = .slice A n c) (hx3 : ∃ s, x3 = .string s) (hx4 : ∃ A n c, x4 = .slice A n c) :
    Calls Tryz.prog 35 #[.agg #[x1, x2, .slice A3 pl.length c3, x3, x4]] w fun e w' => (∃ A cap, e = .returned (.slice A (pl.flatMap fun p => p.1.names).length cap) ∧ Cl w' w'.heap.size A (namesV (pl.flatMap fun p => p.1.names))) ∧ Below w.heap.size w w' := by
  obtain ⟨A1, n1, c1, rfl⟩ := hx1
  obtain ⟨A2, n2, c2, rfl⟩ := hx2
  obtain ⟨st, rfl⟩ := hx3
  obtain ⟨A4, n4, c4, rfl⟩ := hx4
  obtain ⟨i0, hi, hz0, hz1, hz2⟩ := info_parts strinfo
  have HL := Lib.hid hl
  have HV := Lib.hid hv
  have HM := Lib.hid hm
  obtain ⟨n, hnn⟩ : ∃ n, pl.length = n := ⟨_, rfl⟩
  rw [hnn] at hn ⊢
  have HN := Lib.hid hnn
  have HB0 := Lib.hid ((Below.refl w.heap.size w).alloc (Nat.le_refl _) (.cells #[.slice A1 n1 c1, .slice A2 n2 c2, .slice A3 n c3, .string st, .slice A4 n4 c4] 27))
  clear hl hv hm hnn
  go_enter Tryz.func35, Tryz.ntmps35
  go_wp2_with fail
  go_loopw [3, 9] (fun v i wr => ∃ (k m : Nat) (a : Option Addr) (s : Nat), k ≤ n ∧ i = .int .i64 (k : Int) ∧ v = .slice a m s ∧ m = ((pl.take k).flatMap fun p => p.1.names).length ∧ wr.ownsRow w.heap.size 9 1 v m (namesV ((pl.take k).flatMap fun p => p.1.names)) ∧ Below w.heap.size w wr) (fun _ i _ => n - (intOf i).toNat)
  case atStart => exact ⟨0, 0, none, 0, by omega, rfl, rfl, rfl, World.ownsRow_nil _ _ _ _, HB0.out⟩
  case round =>
    obtain ⟨k, m, a, s, hk, rfl, rfl, hm, hown, hb⟩ := hrel
    have HO := Lib.hid hown
    have HB := Lib.hid hb
    have hsz := hb.size
    have HMM := Lib.hid hm
    clear hown hb hm
    by_cases hlt : k < n
    · obtain ⟨x, ht⟩ := some_get (l := pl) (i := k) (by rw [HN.out]; exact hlt)
      obtain ⟨b, o, hA, hbl, hcell⟩ := (HL.out.below (HB.out.mono hB)).ex (fun e => by
        have h1 : (levsC pl)[k * 2 + 0]? = some (.int .i64 x.2.2) := flat_get levC 2 (fun _ => rfl) pl k 0 x _ ht (by omega) rfl
        rw [e] at h1; simp at h1)
      subst hA
      have y0 : wr.cell? ⟨b, o + k * 2, none⟩ = some (.int .i64 x.2.2) := hcell _ _ (flat_get levC 2 (fun _ => rfl) pl k 0 x _ ht (by omega) rfl)
      have y1 : wr.cell? ⟨b, o + k * 2 + 1, none⟩ = some x.2.1 := by rw [Nat.add_assoc]; exact hcell _ _ (flat_get levC 2 (fun _ => rfl) pl k 1 x _ ht (by omega) rfl)
      obtain ⟨A', cap', hv1, hv2⟩ := (HV.out x (List.mem_of_getElem? ht)).below (HB.out.mono hB)
      rw [hv1] at y1
      have htk : (pl.take (k + 1)).flatMap (fun p => p.1.names) = (pl.take k).flatMap (fun p => p.1.names) ++ x.1.names := by
        rw [List.take_add_one, ht]; simp
      have hle : ((pl.take (k + 1)).flatMap (fun p => p.1.names)).length ≤ 1000000 := by
        have h1 : pl.flatMap (fun p => p.1.names) = (pl.take (k + 1)).flatMap (fun p => p.1.names) ++ (pl.drop (k + 1)).flatMap (fun p => p.1.names) := by
          rw [← List.flatMap_append, List.take_append_drop]
        have h2 := HM.out
        rw [h1, List.length_append] at h2
        omega
      rw [htk, List.length_append, ← HMM.out] at hle
      have hnv : namesV ((pl.take (k + 1)).flatMap fun p => p.1.names) = namesV ((pl.take k).flatMap fun p => p.1.names) ++ namesV x.1.names := by rw [htk]; simp [namesV]
      have hml : ((pl.take (k + 1)).flatMap fun p => p.1.names).length = m + x.1.names.length := by rw [htk, List.length_append, ← HMM.out]
      have HNV := Lib.hid hnv
      have HML := Lib.hid hml
      generalize x.2.2 = X0 at y0
      have hlies : ∀ ob, Lies (wr.alloc ob) A' (namesV x.1.names) := fun ob j u hu => by
        have hne : namesV x.1.names ≠ [] := fun e => by rw [e] at hu; simp at hu
        obtain ⟨b', o', rfl, hb', hc'⟩ := hv2.ex hne
        refine ⟨_, rfl, ?_⟩
        have := (((Below.refl wr.heap.size wr).alloc (Nat.le_refl _) ob).cell (p := ⟨b', o' + j, none⟩) (by show b' < _; omega)).trans (hc' j u hu)
        rw [Go.WideShapes.add_plain]; exact this
      have hone : ∀ u ∈ namesV x.1.names, u.oneCell' = true := fun u hu => by
        simp only [namesV, List.mem_map] at hu; obtain ⟨_, _, rfl⟩ := hu; rfl
      have hlen : (namesV x.1.names).length = x.1.names.length * 1 := by simp [namesV]
      generalize x.1.names = L at HNV HML hle hlies hone hlen y1
      generalize namesV L = NV at HNV hlies hone hlen
      obtain ⟨q, hq⟩ : ∃ q, L.length = q := ⟨_, rfl⟩
      rw [hq] at HML hle hlen y1
      have hki : (k : Int) < (n : Int) := by omega
      have hk0 : (0 : Int) ≤ (k : Int) := by omega
      have hc3 : m + q ≤ maxLen := by unfold maxLen; omega
      have hc4 : (m + q) * 16 ≤ 140737488355328 := by omega
      have HLI := Lib.hid hlies
      have HON := Lib.hid hone
      have HLE := Lib.hid hlen
      clear hcell ht htk hv1 hv2 hnv hml hlies hone hlen
      go_wp2_with (at_builtin; refine wpList_append_own3 _ rfl _ _ 34 rfl w.heap.size 9 i0 _ 1 16 Tryz.underlying34 hi hz0 hz1 hz2 rfl (by decide) _ _ _ rfl (HO.out.alloc (.cells #[.int .i64 X0, .slice A' q cap'] 50)) A' q cap' NV rfl HLE.out (HLI.out _) HON.out hc3 hc4 (by simp; omega) ?_)
      intro v' w2 hown' hg _
      obtain ⟨a7, s7, rfl⟩ := own_form hown'
      have HN2 := Lib.hid (show w2.ownsRow w.heap.size 9 1 (.slice a7 (m + q) s7) (m + q) (namesV ((pl.take (k + 1)).flatMap fun p => p.1.names)) by rw [HNV.out]; exact hown')
      have HB2 := Lib.hid (Below.grown (HB.out.alloc hsz (.cells #[.int .i64 X0, .slice A' q cap'] 50)) hg (by simp; omega) (fun j hj => (own_lt HO.out j hj).1))
      clear hown' hg
      go_wp2_with fail
      go_roundw
      case rel => exact ⟨k + 1, m + q, a7, s7, by omega, by go_num, rfl, HML.out.symm, HN2.out, HB2.out⟩
      case measure => simp [intOf]; omega
    · obtain rfl : n = k := by omega
      have hall : pl.take n = pl := by rw [← HN.out, List.take_length]
      rw [hall] at HO HMM
      go_wp2_with fail
      go_ret
      exact ⟨⟨a, s, by rw [← HMM.out]; rfl, (Lie.own HO.out).cl⟩, HB.out⟩

def fitsB (G : Rd.G) : Bool := decide (G.toks.length ≤ 20) && (decide (G.skips.length ≤ 4) && (decide (G.levels.length ≤ 10) && (decide (G.rules.length ≤ 40) && decide (0 < G.rules.length))))
theorem fits_any (A1 A2 A3 A4 : Option Addr) (n1 n2 n3 n4 c1 c2 c3 c4 : Nat) (st : ByteArray) (w : World) :
    Calls Tryz.prog 23 #[.agg #[.slice A1 n1 c1, .slice A2 n2 c2, .slice A3 n3 c3, .string st, .slice A4 n4 c4]] w fun e w' => e = .returned (.bool (decide (n1 ≤ 20) && (decide (n2 ≤ 4) && (decide (n3 ≤ 10) && (decide (n4 ≤ 40) && decide (0 < n4)))))) ∧ Below w.heap.size w w' := by
  have HB := Lib.hid ((Below.refl w.heap.size w).alloc (Nat.le_refl _) (.cells #[.slice A1 n1 c1, .slice A2 n2 c2, .slice A3 n3 c3, .string st, .slice A4 n4 c4] 27))
  by_cases h1 : n1 ≤ 20
  rotate_left
  · have e1 : ¬ (n1 : Int) ≤ 20 := by omega
    rw [decide_eq_false h1]
    clear h1
    go_enter Tryz.func23, Tryz.ntmps23
    go_wp2_with fail
    go_ret
    exact ⟨rfl, HB.out⟩
  have e1 : (n1 : Int) ≤ 20 := by omega
  rw [decide_eq_true h1]
  clear h1
  by_cases h2 : n2 ≤ 4
  rotate_left
  · have e2 : ¬ (n2 : Int) ≤ 4 := by omega
    rw [decide_eq_false h2]
    clear h2
    go_enter Tryz.func23, Tryz.ntmps23
    go_wp2_with fail
    go_ret
    exact ⟨rfl, HB.out⟩
  have e2 : (n2 : Int) ≤ 4 := by omega
  rw [decide_eq_true h2]
  clear h2
  by_cases h3 : n3 ≤ 10
  rotate_left
  · have e3 : ¬ (n3 : Int) ≤ 10 := by omega
    rw [decide_eq_false h3]
    clear h3
    go_enter Tryz.func23, Tryz.ntmps23
    go_wp2_with fail
    go_ret
    exact ⟨rfl, HB.out⟩
  have e3 : (n3 : Int) ≤ 10 := by omega
  rw [decide_eq_true h3]
  clear h3
  by_cases h4 : n4 ≤ 40
  rotate_left
  · have e4 : ¬ (n4 : Int) ≤ 40 := by omega
    rw [decide_eq_false h4]
    clear h4
    go_enter Tryz.func23, Tryz.ntmps23
    go_wp2_with fail
    go_ret
    exact ⟨rfl, HB.out⟩
  have e4 : (n4 : Int) ≤ 40 := by omega
  rw [decide_eq_true h4]
  clear h4
  by_cases h5 : 0 < n4
  · have e5 : (0 : Int) < (n4 : Int) := by omega
    have H5 := Lib.hid h5
    go_enter Tryz.func23, Tryz.ntmps23
    go_wp2_with fail
    go_ret
    exact ⟨by first | rfl | (rw [decide_eq_true H5.out]; rfl), HB.out⟩
  · have e5 : ¬ (0 : Int) < (n4 : Int) := by omega
    have H5 := Lib.hid h5
    go_enter Tryz.func23, Tryz.ntmps23
    go_wp2_with fail
    go_ret
    exact ⟨by first | rfl | (rw [decide_eq_false H5.out]; rfl), HB.out⟩

end Go.Proofs.YtpgmapjjjpcmfaaGreatDoor

namespace Go.Proofs.YtpgmapjjjpcmfaaGreatDoor
open Go.RowKit
open Lx
set_option linter.unusedVariables false
set_option linter.unusedSimpArgs false
set_option maxRecDepth 100000

namespace Pr
open Rd (G)
def lvl (g : G) : List Rd.Name := g.levels.flatMap Rd.Lev.names
def rightC (g : G) : Bool := fitsB g && (nameOk g.start && (g.toks.all tokOk && (g.skips.all patOk && (g.levels.all levOk && g.rules.all ruleOk))))
def rightB (g : G) : Bool := rightC g && (decide (g.toks.map Rd.Tok.name).Nodup && decide (lvl g).Nodup)
theorem rightB_iff (g : G) : rightB g = true ↔ Right g := by
  unfold rightB rightC fitsB lvl
  simp only [Bool.and_eq_true, decide_eq_true_eq, List.all_eq_true]
  constructor
  · rintro ⟨⟨⟨h1, h2, h3, h4, h5⟩, h6, h7, h8, h9, h10⟩, h11, h12⟩
    exact ⟨h1, h2, h3, h4, List.length_pos_iff.1 h5, h6, h7, h8, h9, h10, h11, h12⟩
  · intro h
    exact ⟨⟨⟨h.ntok, h.nskip, h.nlev, h.nrule, List.length_pos_iff.2 h.rules⟩, h.start, h.toks, h.skips, h.levels, h.each⟩, h.tonce, h.lonce⟩
end Pr

set_option maxHeartbeats 4000000 in
theorem pright_any (v : Value) (G : Rd.G) (B : Nat) (w : World) (h : GramC w B v G) (hB : B ≤ w.heap.size) (hs : Sz G) (hT : Tab w) (h0 : 1 < B) (hN : Pr.rightC G = true → (Pr.lvl G).length ≤ 1000000) :
    Calls Tryz.prog 9 #[v] w fun e w' => e = .returned (.bool (Pr.rightB G)) ∧ Below w.heap.size w w' := by
  obtain ⟨A1, c1, A2, c2, A3, c3, A4, c4, pl, ql, rfl, k1, k2, k3, k4, k5, k6, k7, k8⟩ := h.ex
  have hplen : pl.length = G.levels.length := by rw [← k4, List.length_map]
  have hqlen : ql.length = G.rules.length := by rw [← k7, List.length_map]
  have hlall : pl.all (fun x => Pr.levOk x.1) = G.levels.all Pr.levOk := by rw [← k4, List.all_map]; rfl
  have hrall : ql.all (fun x => Pr.ruleOk x.1) = G.rules.all Pr.ruleOk := by rw [← k7, List.all_map]; rfl
  have hlv : (pl.flatMap fun x => x.1.names) = Pr.lvl G := by unfold Pr.lvl; rw [← k4, List.flatMap_map]
  have HF := Lib.hid (show ∀ w', Calls Tryz.prog 23 #[.agg #[.slice A1 G.toks.length c1, .slice A2 G.skips.length c2, .slice A3 G.levels.length c3, .string (str G.start), .slice A4 G.rules.length c4]] w' fun e w'' => e = .returned (.bool (fitsB G)) ∧ Below w'.heap.size w' w'' from fun w' => fits_any _ _ _ _ _ _ _ _ _ _ _ _ _ w')
  have HS := Lib.hid (fun w => isName_any G.start w (by have := hs.start; omega))
  have H1 := Lib.hid (show ∀ w', Below w.heap.size w w' → Calls Tryz.prog 25 #[.slice A1 G.toks.length c1, .func (.func 26) #[] #[]] w' fun e w'' => e = .returned (.bool (G.toks.all Pr.tokOk)) ∧ Below w'.heap.size w' w'' from fun w' hw' =>
    allTok G.toks Pr.tokOk B A1 c1 w' (k1.below (hw'.mono hB)) (Nat.le_trans hB hw'.size) hs.n1 (fun x hx w2 _ _ => tokenCan_any x w2 (hs.tok x hx).1 (hs.tok x hx).2.1 (hs.tok x hx).2.2))
  have H2 := Lib.hid (show ∀ w', Below w.heap.size w w' → Calls Tryz.prog 27 #[.slice A2 G.skips.length c2, .func (.func 28) #[] #[]] w' fun e w'' => e = .returned (.bool (G.skips.all Pr.patOk)) ∧ Below w'.heap.size w' w'' from fun w' hw' =>
    allPat G.skips Pr.patOk B A2 c2 w' (k2.below (hw'.mono hB)) (Nat.le_trans hB hw'.size) hs.n2 (fun x hx w2 _ _ => patCan_any x w2 (hs.skip x hx).1 (hs.skip x hx).2))
  have H3 := Lib.hid (show ∀ w', Below w.heap.size w w' → Calls Tryz.prog 29 #[.slice A3 G.levels.length c3, .func (.func 30) #[] #[]] w' fun e w'' => e = .returned (.bool (G.levels.all Pr.levOk)) ∧ Below w'.heap.size w' w'' from fun w' hw' => by
    rw [← hplen, ← hlall]
    refine allLev pl (fun x => Pr.levOk x.1) B A3 c3 w' (fun x hx => ?_) (k3.below (hw'.mono hB)) (Nat.le_trans hB hw'.size) (by rw [hplen]; exact hs.n3) (fun x hx w2 hw2 _ => ?_)
    · obtain ⟨A, cap, e, _⟩ := (k5 x hx).2; exact ⟨_, _, _, e⟩
    · obtain ⟨A, cap, e, hcl⟩ := (k5 x hx).2
      have hm : x.1 ∈ G.levels := by rw [← k4]; exact List.mem_map.2 ⟨x, hx, rfl⟩
      have e2 : x.1 = ⟨encA x.2.2, x.1.names⟩ := by rw [← (k5 x hx).1]
      rw [e]
      have := levelCan_any x.2.2 x.1.names A cap B w2 ((hcl.below (hw'.mono hB)).below hw2) (Nat.le_trans (Nat.le_trans hB hw'.size) (by assumption)) (hs.lev x.1 hm).1 (hs.lev x.1 hm).2
      rw [← e2] at this
      exact this)
  have H4 := Lib.hid (show ∀ w', Below w.heap.size w w' → Calls Tryz.prog 31 #[.slice A4 G.rules.length c4, .func (.func 32) #[] #[]] w' fun e w'' => e = .returned (.bool (G.rules.all Pr.ruleOk)) ∧ Below w'.heap.size w' w'' from fun w' hw' => by
    rw [← hqlen, ← hrall]
    refine allRule ql (fun x => Pr.ruleOk x.1) B A4 c4 w' (fun x hx => ?_) (k6.below (hw'.mono hB)) (Nat.le_trans hB hw'.size) (by rw [hqlen]; exact hs.n4) (fun x hx w2 hw2 hle => ?_)
    · obtain ⟨A, cap, e, _⟩ := k8 x hx; exact ⟨_, _, _, e⟩
    · obtain ⟨A, cap, e, hcl⟩ := k8 x hx
      have hm : x.1 ∈ G.rules := by rw [← k7]; exact List.mem_map.2 ⟨x, hx, rfl⟩
      rw [e]
      exact ruleCan_any x.1 A cap B w2 ((hcl.below (hw'.mono hB)).below hw2) (Nat.le_trans (Nat.le_trans hB hw'.size) hle) (hT.below ((hw'.mono hB).trans hw2) h0) (by have := hw'.size; omega) (hs.rul x.1 hm))
  have H5 := Lib.hid (show G.toks.length ≤ 1000000 → ∀ w', Below w.heap.size w w' → Calls Tryz.prog 34 #[.agg #[.slice A1 G.toks.length c1, .slice A2 G.skips.length c2, .slice A3 G.levels.length c3, .string (str G.start), .slice A4 G.rules.length c4]] w' fun e w'' => (∃ A cap, e = .returned (.slice A G.toks.length cap) ∧ Cl w'' w''.heap.size A (namesV (G.toks.map Rd.Tok.name))) ∧ Below w'.heap.size w' w'' from fun hn w' hw' =>
    tokenNames_any G.toks A1 c1 _ _ _ _ B w' (k1.below (hw'.mono hB)) (Nat.le_trans hB hw'.size) hn ⟨_, _, _, rfl⟩ ⟨_, _, _, rfl⟩ ⟨_, rfl⟩ ⟨_, _, _, rfl⟩)
  have H6 := Lib.hid (show G.levels.length ≤ 1000000 → (Pr.lvl G).length ≤ 1000000 → ∀ w', Below w.heap.size w w' → Calls Tryz.prog 35 #[.agg #[.slice A1 G.toks.length c1, .slice A2 G.skips.length c2, .slice A3 G.levels.length c3, .string (str G.start), .slice A4 G.rules.length c4]] w' fun e w'' => (∃ A cap, e = .returned (.slice A (Pr.lvl G).length cap) ∧ Cl w'' w''.heap.size A (namesV (Pr.lvl G))) ∧ Below w'.heap.size w' w'' from fun hn hm w' hw' => by
    rw [← hplen, ← hlv]
    exact levelNames_any pl A3 c3 _ _ _ _ B w' (k3.below (hw'.mono hB)) (fun p hp => (k5 p hp).2.below (hw'.mono hB)) (Nat.le_trans hB hw'.size) (by rw [hplen]; exact hn) (by rw [hlv]; exact hm) ⟨_, _, _, rfl⟩ ⟨_, _, _, rfl⟩ ⟨_, rfl⟩ ⟨_, _, _, rfl⟩)
  have HSM := Lib.hid (show Pr.rightC G = true → G.toks.length ≤ 1000000 ∧ G.levels.length ≤ 1000000 ∧ (∀ x ∈ G.toks.map Rd.Tok.name, x.length ≤ 4000) ∧ (∀ x ∈ Pr.lvl G, x.length ≤ 4000) from fun hc => by
    unfold Pr.rightC fitsB at hc
    simp only [Bool.and_eq_true, decide_eq_true_eq, List.all_eq_true] at hc
    obtain ⟨⟨f1, f2, f3, f4, f5⟩, f6, f7, f8, f9, f10⟩ := hc
    refine ⟨by omega, by omega, fun x hx => ?_, fun x hx => ?_⟩
    · obtain ⟨t, ht, rfl⟩ := List.mem_map.1 hx
      have := f7 t ht
      unfold Pr.tokOk at this
      rw [Bool.and_eq_true] at this
      have := (Pr.nameOk_ex this.1).1
      omega
    · obtain ⟨y, hy, hxy⟩ := List.mem_flatMap.1 hx
      have := f9 y hy
      unfold Pr.levOk at this
      simp only [Bool.and_eq_true, List.all_eq_true] at this
      have := (Pr.nameOk_ex (this.2.2 x hxy)).1
      omega)
  have HNN := Lib.hid hN
  obtain ⟨T, hTT⟩ : ∃ T, str G.start = T := ⟨_, rfl⟩
  rw [hTT] at HS HF H5 H6 ⊢
  obtain ⟨n1, e1⟩ : ∃ n, G.toks.length = n := ⟨_, rfl⟩
  obtain ⟨n2, e2⟩ : ∃ n, G.skips.length = n := ⟨_, rfl⟩
  obtain ⟨n3, e3⟩ : ∃ n, G.levels.length = n := ⟨_, rfl⟩
  obtain ⟨n4, e4⟩ : ∃ n, G.rules.length = n := ⟨_, rfl⟩
  have HE1 := Lib.hid e1
  rw [e1, e2, e3, e4] at HF ⊢
  simp only [e1, e2, e3, e4] at H1 H2 H3 H4 H5 H6 HSM
  have HB0 := Lib.hid ((Below.refl w.heap.size w).alloc (Nat.le_refl _) (.cells #[.slice A1 n1 c1, .slice A2 n2 c2, .slice A3 n3 c3, .string T, .slice A4 n4 c4] 27))
  have HAT0 := Lib.hid (At.new w 27 #[.slice A1 n1 c1, .slice A2 n2 c2, .slice A3 n3 c3, .string T, .slice A4 n4 c4])
  have hrb : Pr.rightB G = (Pr.rightC G && (decide (G.toks.map Rd.Tok.name).Nodup && decide (Pr.lvl G).Nodup)) := rfl
  have hrc : Pr.rightC G = (fitsB G && (Pr.nameOk G.start && (G.toks.all Pr.tokOk && (G.skips.all Pr.patOk && (G.levels.all Pr.levOk && G.rules.all Pr.ruleOk))))) := rfl
  rw [hrc] at HSM HNN hrb
  rw [hrb]
  have hnl : (G.toks.map Rd.Tok.name).length = n1 := by rw [List.length_map, e1]
  generalize fitsB G = q0 at HF HSM HNN ⊢
  generalize Pr.nameOk G.start = q1 at HS HSM HNN ⊢
  generalize G.toks.all Pr.tokOk = q2 at H1 HSM HNN ⊢
  generalize G.skips.all Pr.patOk = q3 at H2 HSM HNN ⊢
  generalize G.levels.all Pr.levOk = q4 at H3 HSM HNN ⊢
  generalize G.rules.all Pr.ruleOk = q5 at H4 HSM HNN ⊢
  generalize G.toks.map Rd.Tok.name = L1 at H5 HSM hnl ⊢
  generalize Pr.lvl G = L2 at H6 HSM HNN ⊢
  have HNL := Lib.hid hnl
  clear h hB hs hT h0 hN k1 k2 k3 k4 k5 k6 k7 k8 hplen hqlen hlall hrall hlv hTT e1 e2 e3 e4 HE1 hrb hrc hnl

  cases q0 with
  | false =>
    go_enter Tryz.func9, Tryz.ntmps9
    go_wp2_with fail
    refine (HF.out _).mono ?_
    rintro e w1 ⟨rfl, hb⟩
    have HB1 := Lib.hid (HB0.out.trans (hb.mono HB0.out.size))
    have HAT1 := Lib.hid (HAT0.out.below hb HAT0.out.lt)
    have x0 := HAT1.out.cell 0
    have x1 := HAT1.out.cell 1
    have x2 := HAT1.out.cell 2
    have x3 := HAT1.out.cell 3
    have x4 := HAT1.out.cell 4
    simp only [List.getElem?_toArray, List.getElem?_cons_zero, List.getElem?_cons_succ] at x0 x1 x2 x3 x4
    clear hb
    go_wp2_with fail
    go_ret
    exact ⟨by first | rfl | simp, HB1.out⟩
  | true =>
    cases q1 with
    | false =>
      go_enter Tryz.func9, Tryz.ntmps9
      go_wp2_with fail
      refine (HF.out _).mono ?_
      rintro e w1 ⟨rfl, hb⟩
      have HB1 := Lib.hid (HB0.out.trans (hb.mono HB0.out.size))
      have HAT1 := Lib.hid (HAT0.out.below hb HAT0.out.lt)
      have x0 := HAT1.out.cell 0
      have x1 := HAT1.out.cell 1
      have x2 := HAT1.out.cell 2
      have x3 := HAT1.out.cell 3
      have x4 := HAT1.out.cell 4
      simp only [List.getElem?_toArray, List.getElem?_cons_zero, List.getElem?_cons_succ] at x0 x1 x2 x3 x4
      clear hb
      go_wp2_with fail
      refine (HS.out _).mono ?_
      rintro e wS ⟨rfl, rfl⟩
      go_wp2_with fail
      go_ret
      exact ⟨by first | rfl | simp, HB1.out⟩
    | true =>
      cases q2 with
      | false =>
        go_enter Tryz.func9, Tryz.ntmps9
        go_wp2_with fail
        refine (HF.out _).mono ?_
        rintro e w1 ⟨rfl, hb⟩
        have HB1 := Lib.hid (HB0.out.trans (hb.mono HB0.out.size))
        have HAT1 := Lib.hid (HAT0.out.below hb HAT0.out.lt)
        have x0 := HAT1.out.cell 0
        have x1 := HAT1.out.cell 1
        have x2 := HAT1.out.cell 2
        have x3 := HAT1.out.cell 3
        have x4 := HAT1.out.cell 4
        simp only [List.getElem?_toArray, List.getElem?_cons_zero, List.getElem?_cons_succ] at x0 x1 x2 x3 x4
        clear hb
        go_wp2_with fail
        refine (HS.out _).mono ?_
        rintro e wS ⟨rfl, rfl⟩
        go_wp2_with fail
        refine (H1.out _ HB1.out).mono ?_
        rintro e w3 ⟨rfl, hb⟩
        have HB3 := Lib.hid (HB1.out.trans (hb.mono HB1.out.size))
        have HAT3 := Lib.hid (HAT1.out.below hb HAT1.out.lt)
        have x0 := HAT3.out.cell 0
        have x1 := HAT3.out.cell 1
        have x2 := HAT3.out.cell 2
        have x3 := HAT3.out.cell 3
        have x4 := HAT3.out.cell 4
        simp only [List.getElem?_toArray, List.getElem?_cons_zero, List.getElem?_cons_succ] at x0 x1 x2 x3 x4
        clear hb
        go_wp2_with fail
        go_ret
        exact ⟨by first | rfl | simp, HB3.out⟩
      | true =>
        cases q3 with
        | false =>
          go_enter Tryz.func9, Tryz.ntmps9
          go_wp2_with fail
          refine (HF.out _).mono ?_
          rintro e w1 ⟨rfl, hb⟩
          have HB1 := Lib.hid (HB0.out.trans (hb.mono HB0.out.size))
          have HAT1 := Lib.hid (HAT0.out.below hb HAT0.out.lt)
          have x0 := HAT1.out.cell 0
          have x1 := HAT1.out.cell 1
          have x2 := HAT1.out.cell 2
          have x3 := HAT1.out.cell 3
          have x4 := HAT1.out.cell 4
          simp only [List.getElem?_toArray, List.getElem?_cons_zero, List.getElem?_cons_succ] at x0 x1 x2 x3 x4
          clear hb
          go_wp2_with fail
          refine (HS.out _).mono ?_
          rintro e wS ⟨rfl, rfl⟩
          go_wp2_with fail
          refine (H1.out _ HB1.out).mono ?_
          rintro e w3 ⟨rfl, hb⟩
          have HB3 := Lib.hid (HB1.out.trans (hb.mono HB1.out.size))
          have HAT3 := Lib.hid (HAT1.out.below hb HAT1.out.lt)
          have x0 := HAT3.out.cell 0
          have x1 := HAT3.out.cell 1
          have x2 := HAT3.out.cell 2
          have x3 := HAT3.out.cell 3
          have x4 := HAT3.out.cell 4
          simp only [List.getElem?_toArray, List.getElem?_cons_zero, List.getElem?_cons_succ] at x0 x1 x2 x3 x4
          clear hb
          go_wp2_with fail
          refine (H2.out _ HB3.out).mono ?_
          rintro e w4 ⟨rfl, hb⟩
          have HB4 := Lib.hid (HB3.out.trans (hb.mono HB3.out.size))
          have HAT4 := Lib.hid (HAT3.out.below hb HAT3.out.lt)
          have x0 := HAT4.out.cell 0
          have x1 := HAT4.out.cell 1
          have x2 := HAT4.out.cell 2
          have x3 := HAT4.out.cell 3
          have x4 := HAT4.out.cell 4
          simp only [List.getElem?_toArray, List.getElem?_cons_zero, List.getElem?_cons_succ] at x0 x1 x2 x3 x4
          clear hb
          go_wp2_with fail
          go_ret
          exact ⟨by first | rfl | simp, HB4.out⟩
        | true =>
          cases q4 with
          | false =>
            go_enter Tryz.func9, Tryz.ntmps9
            go_wp2_with fail
            refine (HF.out _).mono ?_
            rintro e w1 ⟨rfl, hb⟩
            have HB1 := Lib.hid (HB0.out.trans (hb.mono HB0.out.size))
            have HAT1 := Lib.hid (HAT0.out.below hb HAT0.out.lt)
            have x0 := HAT1.out.cell 0
            have x1 := HAT1.out.cell 1
            have x2 := HAT1.out.cell 2
            have x3 := HAT1.out.cell 3
            have x4 := HAT1.out.cell 4
            simp only [List.getElem?_toArray, List.getElem?_cons_zero, List.getElem?_cons_succ] at x0 x1 x2 x3 x4
            clear hb
            go_wp2_with fail
            refine (HS.out _).mono ?_
            rintro e wS ⟨rfl, rfl⟩
            go_wp2_with fail
            refine (H1.out _ HB1.out).mono ?_
            rintro e w3 ⟨rfl, hb⟩
            have HB3 := Lib.hid (HB1.out.trans (hb.mono HB1.out.size))
            have HAT3 := Lib.hid (HAT1.out.below hb HAT1.out.lt)
            have x0 := HAT3.out.cell 0
            have x1 := HAT3.out.cell 1
            have x2 := HAT3.out.cell 2
            have x3 := HAT3.out.cell 3
            have x4 := HAT3.out.cell 4
            simp only [List.getElem?_toArray, List.getElem?_cons_zero, List.getElem?_cons_succ] at x0 x1 x2 x3 x4
            clear hb
            go_wp2_with fail
            refine (H2.out _ HB3.out).mono ?_
            rintro e w4 ⟨rfl, hb⟩
            have HB4 := Lib.hid (HB3.out.trans (hb.mono HB3.out.size))
            have HAT4 := Lib.hid (HAT3.out.below hb HAT3.out.lt)
            have x0 := HAT4.out.cell 0
            have x1 := HAT4.out.cell 1
            have x2 := HAT4.out.cell 2
            have x3 := HAT4.out.cell 3
            have x4 := HAT4.out.cell 4
            simp only [List.getElem?_toArray, List.getElem?_cons_zero, List.getElem?_cons_succ] at x0 x1 x2 x3 x4
            clear hb
            go_wp2_with fail
            refine (H3.out _ HB4.out).mono ?_
            rintro e w5 ⟨rfl, hb⟩
            have HB5 := Lib.hid (HB4.out.trans (hb.mono HB4.out.size))
            have HAT5 := Lib.hid (HAT4.out.below hb HAT4.out.lt)
            have x0 := HAT5.out.cell 0
            have x1 := HAT5.out.cell 1
            have x2 := HAT5.out.cell 2
            have x3 := HAT5.out.cell 3
            have x4 := HAT5.out.cell 4
            simp only [List.getElem?_toArray, List.getElem?_cons_zero, List.getElem?_cons_succ] at x0 x1 x2 x3 x4
            clear hb
            go_wp2_with fail
            go_ret
            exact ⟨by first | rfl | simp, HB5.out⟩
          | true =>
            cases q5 with
            | false =>
              go_enter Tryz.func9, Tryz.ntmps9
              go_wp2_with fail
              refine (HF.out _).mono ?_
              rintro e w1 ⟨rfl, hb⟩
              have HB1 := Lib.hid (HB0.out.trans (hb.mono HB0.out.size))
              have HAT1 := Lib.hid (HAT0.out.below hb HAT0.out.lt)
              have x0 := HAT1.out.cell 0
              have x1 := HAT1.out.cell 1
              have x2 := HAT1.out.cell 2
              have x3 := HAT1.out.cell 3
              have x4 := HAT1.out.cell 4
              simp only [List.getElem?_toArray, List.getElem?_cons_zero, List.getElem?_cons_succ] at x0 x1 x2 x3 x4
              clear hb
              go_wp2_with fail
              refine (HS.out _).mono ?_
              rintro e wS ⟨rfl, rfl⟩
              go_wp2_with fail
              refine (H1.out _ HB1.out).mono ?_
              rintro e w3 ⟨rfl, hb⟩
              have HB3 := Lib.hid (HB1.out.trans (hb.mono HB1.out.size))
              have HAT3 := Lib.hid (HAT1.out.below hb HAT1.out.lt)
              have x0 := HAT3.out.cell 0
              have x1 := HAT3.out.cell 1
              have x2 := HAT3.out.cell 2
              have x3 := HAT3.out.cell 3
              have x4 := HAT3.out.cell 4
              simp only [List.getElem?_toArray, List.getElem?_cons_zero, List.getElem?_cons_succ] at x0 x1 x2 x3 x4
              clear hb
              go_wp2_with fail
              refine (H2.out _ HB3.out).mono ?_
              rintro e w4 ⟨rfl, hb⟩
              have HB4 := Lib.hid (HB3.out.trans (hb.mono HB3.out.size))
              have HAT4 := Lib.hid (HAT3.out.below hb HAT3.out.lt)
              have x0 := HAT4.out.cell 0
              have x1 := HAT4.out.cell 1
              have x2 := HAT4.out.cell 2
              have x3 := HAT4.out.cell 3
              have x4 := HAT4.out.cell 4
              simp only [List.getElem?_toArray, List.getElem?_cons_zero, List.getElem?_cons_succ] at x0 x1 x2 x3 x4
              clear hb
              go_wp2_with fail
              refine (H3.out _ HB4.out).mono ?_
              rintro e w5 ⟨rfl, hb⟩
              have HB5 := Lib.hid (HB4.out.trans (hb.mono HB4.out.size))
              have HAT5 := Lib.hid (HAT4.out.below hb HAT4.out.lt)
              have x0 := HAT5.out.cell 0
              have x1 := HAT5.out.cell 1
              have x2 := HAT5.out.cell 2
              have x3 := HAT5.out.cell 3
              have x4 := HAT5.out.cell 4
              simp only [List.getElem?_toArray, List.getElem?_cons_zero, List.getElem?_cons_succ] at x0 x1 x2 x3 x4
              clear hb
              go_wp2_with fail
              refine (H4.out _ HB5.out).mono ?_
              rintro e w6 ⟨rfl, hb⟩
              have HB6 := Lib.hid (HB5.out.trans (hb.mono HB5.out.size))
              have HAT6 := Lib.hid (HAT5.out.below hb HAT5.out.lt)
              have x0 := HAT6.out.cell 0
              have x1 := HAT6.out.cell 1
              have x2 := HAT6.out.cell 2
              have x3 := HAT6.out.cell 3
              have x4 := HAT6.out.cell 4
              simp only [List.getElem?_toArray, List.getElem?_cons_zero, List.getElem?_cons_succ] at x0 x1 x2 x3 x4
              clear hb
              go_wp2_with fail
              go_ret
              exact ⟨by first | rfl | simp, HB6.out⟩
            | true =>
              obtain ⟨m1, m2, m3, m4⟩ := HSM.out rfl
              have M5 := HNN.out rfl
              have M3 := Lib.hid m3
              have M4 := Lib.hid m4
              clear m3 m4
              cases hq6 : decide L1.Nodup with
              | false =>
                go_enter Tryz.func9, Tryz.ntmps9
                go_wp2_with fail
                refine (HF.out _).mono ?_
                rintro e w1 ⟨rfl, hb⟩
                have HB1 := Lib.hid (HB0.out.trans (hb.mono HB0.out.size))
                have HAT1 := Lib.hid (HAT0.out.below hb HAT0.out.lt)
                have x0 := HAT1.out.cell 0
                have x1 := HAT1.out.cell 1
                have x2 := HAT1.out.cell 2
                have x3 := HAT1.out.cell 3
                have x4 := HAT1.out.cell 4
                simp only [List.getElem?_toArray, List.getElem?_cons_zero, List.getElem?_cons_succ] at x0 x1 x2 x3 x4
                clear hb
                go_wp2_with fail
                refine (HS.out _).mono ?_
                rintro e wS ⟨rfl, rfl⟩
                go_wp2_with fail
                refine (H1.out _ HB1.out).mono ?_
                rintro e w3 ⟨rfl, hb⟩
                have HB3 := Lib.hid (HB1.out.trans (hb.mono HB1.out.size))
                have HAT3 := Lib.hid (HAT1.out.below hb HAT1.out.lt)
                have x0 := HAT3.out.cell 0
                have x1 := HAT3.out.cell 1
                have x2 := HAT3.out.cell 2
                have x3 := HAT3.out.cell 3
                have x4 := HAT3.out.cell 4
                simp only [List.getElem?_toArray, List.getElem?_cons_zero, List.getElem?_cons_succ] at x0 x1 x2 x3 x4
                clear hb
                go_wp2_with fail
                refine (H2.out _ HB3.out).mono ?_
                rintro e w4 ⟨rfl, hb⟩
                have HB4 := Lib.hid (HB3.out.trans (hb.mono HB3.out.size))
                have HAT4 := Lib.hid (HAT3.out.below hb HAT3.out.lt)
                have x0 := HAT4.out.cell 0
                have x1 := HAT4.out.cell 1
                have x2 := HAT4.out.cell 2
                have x3 := HAT4.out.cell 3
                have x4 := HAT4.out.cell 4
                simp only [List.getElem?_toArray, List.getElem?_cons_zero, List.getElem?_cons_succ] at x0 x1 x2 x3 x4
                clear hb
                go_wp2_with fail
                refine (H3.out _ HB4.out).mono ?_
                rintro e w5 ⟨rfl, hb⟩
                have HB5 := Lib.hid (HB4.out.trans (hb.mono HB4.out.size))
                have HAT5 := Lib.hid (HAT4.out.below hb HAT4.out.lt)
                have x0 := HAT5.out.cell 0
                have x1 := HAT5.out.cell 1
                have x2 := HAT5.out.cell 2
                have x3 := HAT5.out.cell 3
                have x4 := HAT5.out.cell 4
                simp only [List.getElem?_toArray, List.getElem?_cons_zero, List.getElem?_cons_succ] at x0 x1 x2 x3 x4
                clear hb
                go_wp2_with fail
                refine (H4.out _ HB5.out).mono ?_
                rintro e w6 ⟨rfl, hb⟩
                have HB6 := Lib.hid (HB5.out.trans (hb.mono HB5.out.size))
                have HAT6 := Lib.hid (HAT5.out.below hb HAT5.out.lt)
                have x0 := HAT6.out.cell 0
                have x1 := HAT6.out.cell 1
                have x2 := HAT6.out.cell 2
                have x3 := HAT6.out.cell 3
                have x4 := HAT6.out.cell 4
                simp only [List.getElem?_toArray, List.getElem?_cons_zero, List.getElem?_cons_succ] at x0 x1 x2 x3 x4
                clear hb
                go_wp2_with fail
                refine (H5.out m1 _ HB6.out).mono ?_
                rintro e w7 ⟨⟨A7, c7, rfl, hcl⟩, hb⟩
                have HB7 := Lib.hid (HB6.out.trans (hb.mono HB6.out.size))
                have HAT7 := Lib.hid (HAT6.out.below hb HAT6.out.lt)
                have x0 := HAT7.out.cell 0
                have x1 := HAT7.out.cell 1
                have x2 := HAT7.out.cell 2
                have x3 := HAT7.out.cell 3
                have x4 := HAT7.out.cell 4
                simp only [List.getElem?_toArray, List.getElem?_cons_zero, List.getElem?_cons_succ] at x0 x1 x2 x3 x4
                clear hb
                have hon := once_any L1 A7 c7 w7.heap.size w7 hcl (Nat.le_refl _) M3.out (by rw [HNL.out]; exact m1)
                rw [HNL.out] at hon
                rw [hq6] at hon; have HON := Lib.hid hon
                clear hon hcl
                go_wp2_with fail
                refine (HON.out).mono ?_
                rintro e w8 ⟨rfl, hb⟩
                have HB8 := Lib.hid (HB7.out.trans (hb.mono HB7.out.size))
                have HAT8 := Lib.hid (HAT7.out.below hb HAT7.out.lt)
                have x0 := HAT8.out.cell 0
                have x1 := HAT8.out.cell 1
                have x2 := HAT8.out.cell 2
                have x3 := HAT8.out.cell 3
                have x4 := HAT8.out.cell 4
                simp only [List.getElem?_toArray, List.getElem?_cons_zero, List.getElem?_cons_succ] at x0 x1 x2 x3 x4
                clear hb
                go_wp2_with fail
                go_ret
                exact ⟨by first | rfl | simp, HB8.out⟩
              | true =>
                go_enter Tryz.func9, Tryz.ntmps9
                go_wp2_with fail
                refine (HF.out _).mono ?_
                rintro e w1 ⟨rfl, hb⟩
                have HB1 := Lib.hid (HB0.out.trans (hb.mono HB0.out.size))
                have HAT1 := Lib.hid (HAT0.out.below hb HAT0.out.lt)
                have x0 := HAT1.out.cell 0
                have x1 := HAT1.out.cell 1
                have x2 := HAT1.out.cell 2
                have x3 := HAT1.out.cell 3
                have x4 := HAT1.out.cell 4
                simp only [List.getElem?_toArray, List.getElem?_cons_zero, List.getElem?_cons_succ] at x0 x1 x2 x3 x4
                clear hb
                go_wp2_with fail
                refine (HS.out _).mono ?_
                rintro e wS ⟨rfl, rfl⟩
                go_wp2_with fail
                refine (H1.out _ HB1.out).mono ?_
                rintro e w3 ⟨rfl, hb⟩
                have HB3 := Lib.hid (HB1.out.trans (hb.mono HB1.out.size))
                have HAT3 := Lib.hid (HAT1.out.below hb HAT1.out.lt)
                have x0 := HAT3.out.cell 0
                have x1 := HAT3.out.cell 1
                have x2 := HAT3.out.cell 2
                have x3 := HAT3.out.cell 3
                have x4 := HAT3.out.cell 4
                simp only [List.getElem?_toArray, List.getElem?_cons_zero, List.getElem?_cons_succ] at x0 x1 x2 x3 x4
                clear hb
                go_wp2_with fail
                refine (H2.out _ HB3.out).mono ?_
                rintro e w4 ⟨rfl, hb⟩
                have HB4 := Lib.hid (HB3.out.trans (hb.mono HB3.out.size))
                have HAT4 := Lib.hid (HAT3.out.below hb HAT3.out.lt)
                have x0 := HAT4.out.cell 0
                have x1 := HAT4.out.cell 1
                have x2 := HAT4.out.cell 2
                have x3 := HAT4.out.cell 3
                have x4 := HAT4.out.cell 4
                simp only [List.getElem?_toArray, List.getElem?_cons_zero, List.getElem?_cons_succ] at x0 x1 x2 x3 x4
                clear hb
                go_wp2_with fail
                refine (H3.out _ HB4.out).mono ?_
                rintro e w5 ⟨rfl, hb⟩
                have HB5 := Lib.hid (HB4.out.trans (hb.mono HB4.out.size))
                have HAT5 := Lib.hid (HAT4.out.below hb HAT4.out.lt)
                have x0 := HAT5.out.cell 0
                have x1 := HAT5.out.cell 1
                have x2 := HAT5.out.cell 2
                have x3 := HAT5.out.cell 3
                have x4 := HAT5.out.cell 4
                simp only [List.getElem?_toArray, List.getElem?_cons_zero, List.getElem?_cons_succ] at x0 x1 x2 x3 x4
                clear hb
                go_wp2_with fail
                refine (H4.out _ HB5.out).mono ?_
                rintro e w6 ⟨rfl, hb⟩
                have HB6 := Lib.hid (HB5.out.trans (hb.mono HB5.out.size))
                have HAT6 := Lib.hid (HAT5.out.below hb HAT5.out.lt)
                have x0 := HAT6.out.cell 0
                have x1 := HAT6.out.cell 1
                have x2 := HAT6.out.cell 2
                have x3 := HAT6.out.cell 3
                have x4 := HAT6.out.cell 4
                simp only [List.getElem?_toArray, List.getElem?_cons_zero, List.getElem?_cons_succ] at x0 x1 x2 x3 x4
                clear hb
                go_wp2_with fail
                refine (H5.out m1 _ HB6.out).mono ?_
                rintro e w7 ⟨⟨A7, c7, rfl, hcl⟩, hb⟩
                have HB7 := Lib.hid (HB6.out.trans (hb.mono HB6.out.size))
                have HAT7 := Lib.hid (HAT6.out.below hb HAT6.out.lt)
                have x0 := HAT7.out.cell 0
                have x1 := HAT7.out.cell 1
                have x2 := HAT7.out.cell 2
                have x3 := HAT7.out.cell 3
                have x4 := HAT7.out.cell 4
                simp only [List.getElem?_toArray, List.getElem?_cons_zero, List.getElem?_cons_succ] at x0 x1 x2 x3 x4
                clear hb
                have hon := once_any L1 A7 c7 w7.heap.size w7 hcl (Nat.le_refl _) M3.out (by rw [HNL.out]; exact m1)
                rw [HNL.out] at hon
                rw [hq6] at hon; have HON := Lib.hid hon
                clear hon hcl
                go_wp2_with fail
                refine (HON.out).mono ?_
                rintro e w8 ⟨rfl, hb⟩
                have HB8 := Lib.hid (HB7.out.trans (hb.mono HB7.out.size))
                have HAT8 := Lib.hid (HAT7.out.below hb HAT7.out.lt)
                have x0 := HAT8.out.cell 0
                have x1 := HAT8.out.cell 1
                have x2 := HAT8.out.cell 2
                have x3 := HAT8.out.cell 3
                have x4 := HAT8.out.cell 4
                simp only [List.getElem?_toArray, List.getElem?_cons_zero, List.getElem?_cons_succ] at x0 x1 x2 x3 x4
                clear hb
                go_wp2_with fail
                refine (H6.out m2 M5 _ HB8.out).mono ?_
                rintro e w9 ⟨⟨A9, c9, rfl, hcl⟩, hb⟩
                have HB9 := Lib.hid (HB8.out.trans (hb.mono HB8.out.size))
                have HAT9 := Lib.hid (HAT8.out.below hb HAT8.out.lt)
                have x0 := HAT9.out.cell 0
                have x1 := HAT9.out.cell 1
                have x2 := HAT9.out.cell 2
                have x3 := HAT9.out.cell 3
                have x4 := HAT9.out.cell 4
                simp only [List.getElem?_toArray, List.getElem?_cons_zero, List.getElem?_cons_succ] at x0 x1 x2 x3 x4
                clear hb
                have hon2 := once_any L2 A9 c9 w9.heap.size w9 hcl (Nat.le_refl _) M4.out M5
                have HON2 := Lib.hid hon2
                clear hon2 hcl
                go_wp2_with fail
                refine (HON2.out).mono ?_
                rintro e w10 ⟨rfl, hb⟩
                have HB10 := Lib.hid (HB9.out.trans (hb.mono HB9.out.size))
                have HAT10 := Lib.hid (HAT9.out.below hb HAT9.out.lt)
                have x0 := HAT10.out.cell 0
                have x1 := HAT10.out.cell 1
                have x2 := HAT10.out.cell 2
                have x3 := HAT10.out.cell 3
                have x4 := HAT10.out.cell 4
                simp only [List.getElem?_toArray, List.getElem?_cons_zero, List.getElem?_cons_succ] at x0 x1 x2 x3 x4
                clear hb
                go_wp2_with fail
                go_ret
                exact ⟨by first | rfl | simp, HB10.out⟩

end Go.Proofs.YtpgmapjjjpcmfaaGreatDoor
