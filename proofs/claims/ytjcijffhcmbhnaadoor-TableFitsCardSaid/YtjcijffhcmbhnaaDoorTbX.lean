import Derived.Test.YtjcijffhcmbhnaaDoorTbR
namespace Go.Proofs.YtjcijffhcmbhnaaDoor
set_option maxRecDepth 100000
open Go.RowKit
open BitKit
set_option linter.unusedVariables false
set_option linter.unusedSimpArgs false
def MeetsAt (W r : List Int) (a : Nat) (iv : Int) (c : Nat) : Prop := r.getD c 0 ≠ 0 ∧ 0 < W.getD (a + c) 0 ∧ W.getD (a + c) 0 ≤ iv
def MeetsTo (W r : List Int) (a : Nat) (iv : Int) (n : Nat) : Prop := ∃ c, c < n ∧ MeetsAt W r a iv c
theorem MeetsTo.succ {W r : List Int} {a n : Nat} {iv : Int} : MeetsTo W r a iv (n + 1) ↔ (MeetsTo W r a iv n ∨ MeetsAt W r a iv n) := by
 constructor
 ·rintro ⟨c, hc, h⟩
  by_cases h1 : c = n
  ·exact .inr (h1 ▸ h)
  ·exact .inl ⟨c, by omega, h⟩
 ·rintro (⟨c, hc, h⟩ | h)
  ·exact ⟨c, by omega, h⟩
  ·exact ⟨n, by omega, h⟩
theorem meets_of (R : List (List Int)) (i k a : Nat) (r : List Int) (hr : R[i]? = some r) (hk : (Tb.ids R)[i]? = some k) (ha : a < (Tb.pack (Tb.outs R)).pl.getD k 0) :
  MeetsTo (Tb.pack (Tb.outs R)).ow r a (k : Int) r.length := by
 obtain ⟨k', h1, h2⟩ := Tb.ids_at R i r hr
 rw [hk] at h1
 obtain rfl : k = k' := by simpa using h1
 have h3 := Tb.pl_at (Tb.outs R) k _ h2
 have h4 : (Tb.pack (Tb.outs R)).pl.getD k 0 = Tb.place (Tb.pack ((Tb.outs R).take k)).ow (Tb.trim r) := by rw [List.getD, h3]; rfl
 rw [h4] at ha
 have h5 := (Tb.place_least _ (Tb.trim r)).least a ha
 have h6 : ∃ c, (Tb.trim r).getD c 0 ≠ 0 ∧ (Tb.pack ((Tb.outs R).take k)).ow.getD (a + c) 0 ≠ 0 := by
  by_cases h7 : ∃ c, (Tb.trim r).getD c 0 ≠ 0 ∧ (Tb.pack ((Tb.outs R).take k)).ow.getD (a + c) 0 ≠ 0
  ·exact h7
  ·refine absurd (fun c hc => ?_) h5
   by_cases h8 : (Tb.pack ((Tb.outs R).take k)).ow.getD (a + c) 0 = 0
   ·exact h8
   ·exact absurd ⟨c, hc, h8⟩ h7
 obtain ⟨c, hc, ho⟩ := h6
 rw [Tb.trim_getD] at hc
 have h7 := (Tb.pack_old ((Tb.outs R).take k) ((Tb.outs R).drop k) ho).1
 rw [List.take_append_drop] at h7
 have h8 := (Tb.ow_cell ((Tb.outs R).take k) (a + c)).2
 have h9 : ((Tb.outs R).take k).length ≤ k := by rw [List.length_take]; omega
 refine ⟨c, Tb.getD_in hc, hc, ?_, ?_⟩
 ·rw [h7]; omega
 ·rw [h7]; omega
theorem base_at (R : List (List Int)) (i k : Nat) (hk : (Tb.ids R)[i]? = some k) : (Tb.base R).getD i 0 = (((Tb.pack (Tb.outs R)).pl.getD k 0 : Nat) : Int) := by
 unfold Tb.base
 rw [List.getD, List.getElem?_map, hk]; rfl
theorem idsI_at (R : List (List Int)) (i k : Nat) (hk : (Tb.ids R)[i]? = some k) : (Tb.idsI R).getD i 0 = (k : Int) := by
 unfold Tb.idsI
 rw [List.getD, List.getElem?_map, hk]; rfl
theorem pl_small (R : List (List Int)) (hS : Short R) (k : Nat) : (Tb.pack (Tb.outs R)).pl.getD k 0 ≤ 625 := by
 have ho := outs_short hS
 have hw := Tb.ow_length (Tb.outs R) 25 ho.2
 rw [List.getD]
 cases hp : (Tb.pack (Tb.outs R)).pl[k]? with
 | none => exact Nat.zero_le _
 | some p =>
  have hlt := (List.getElem?_eq_some_iff.1 hp).1
  rw [Tb.pl_length] at hlt
  obtain ⟨r, hr⟩ : ∃ r, (Tb.outs R)[k]? = some r := ⟨_, List.getElem?_eq_getElem hlt⟩
  have h1 := Tb.pl_at (Tb.outs R) k r hr
  rw [hp] at h1
  obtain rfl : p = _ := by simpa using h1
  have h2 := Tb.place_le (Tb.pack ((Tb.outs R).take k)).ow r
  have h3 := Tb.pack_longer ((Tb.outs R).take k) ((Tb.outs R).drop k)
  rw [List.take_append_drop] at h3
  have h4 : 25 * (Tb.outs R).length ≤ 625 := by have := ho.1; omega
  simp only [Option.getD_some]
  omega
set_option maxHeartbeats 4000000 in
theorem fits15_law (v : Value) (R : List (List Int)) (w : World) (h : RowsL w v R) (hT : Tab w) (hT0 : 0 < w.heap.size) (hP : Pow w.heap.size w) :
  Calls Tryd.prog 7 #[v] w fun e w' => e = .returned (.bool true) ∧ Below w.heap.size w w' := by
 have KR := Lib.hid h
 have KT := Lib.hid hT
 have KP := Lib.hid hP
 have Kaw := Lib.hid (awake_any w hT hT0 hP)
 obtain ⟨A, c, rfl⟩ := h.shape
 clear h hT hP
 go_enter Tryd.func7, Tryd.ntmps7
 go_wp2_with fail
 refine Kaw.out.mono ?_
 rintro e w1 ⟨rfl, hb1⟩
 have hR1 := KR.out.below hb1
 have Kfew := Lib.hid (few_any _ R w1 hR1)
 have KR1 := Lib.hid hR1
 have Kb1 := Lib.hid hb1
 clear hR1 hb1 Kaw KR
 go_wp2_with fail
 refine Kfew.out.mono ?_
 rintro e w1 ⟨⟨r, rfl, hr⟩, rfl⟩
 cases r
 ·go_wp2_with fail
  go_ret
  exact ⟨rfl, Kb1.out⟩
 have KS := Lib.hid (hr.1 rfl)
 have Kpk := Lib.hid (pack_any _ R w1 KR1.out KS.out (KP.out.up Kb1.out Kb1.out.size) (KT.out.below Kb1.out hT0) (Nat.lt_of_lt_of_le hT0 Kb1.out.size))
 clear hr Kfew
 go_wp2_with fail
 refine Kpk.out.mono ?_
 rintro e w4 ⟨u, rfl, hPk⟩
 have hb4 := hPk.below
 obtain ⟨a1, bv, nv, ov, rfl, hI, hB, hN, hO⟩ := hPk.ex
 have hsh := outs_short KS.out
 have sI : Small (Tb.idsI R) := ints_small (fun x hx => by have := ids_le KS.out x hx; omega)
 have sB : Small (Tb.base R) := base_small R KS.out
 have sO : Small (Tb.pack (Tb.outs R)).ow := ow_small _ (by have := hsh.1; omega)
 obtain ⟨A3, c3, hva, _, hI'⟩ := hI.row sI
 obtain ⟨A4, c4, hvb, _, hB'⟩ := hB.row sB
 obtain ⟨A5, c5, hvn⟩ := hN.shape
 obtain ⟨A6, c6, hvo, _, hO'⟩ := hO.row sO
 obtain ⟨n, hn⟩ : ∃ n, (Tb.pack (Tb.outs R)).nx.length = n := ⟨_, rfl⟩
 have hn2 := Tb.nx_length (Tb.outs R)
 rw [hn] at hn2
 rw [Tb.idsI_length] at hva hI'
 rw [Tb.base_length] at hvb hB'
 rw [hn] at hvn
 rw [← hn2] at hvo hO'
 subst hva hvb hvn hvo
 have hn3 := Tb.ow_length (Tb.outs R) 25 hsh.2
 rw [← hn2] at hn3
 have hm25 := hsh.1
 have hn4 : n ≤ 625 := by omega
 have hA := At.new w4 29 #[.slice A3 R.length c3, .slice A4 R.length c4, .slice A5 n c5, .slice A6 n c6]
 have Kc := Lib.hid (packed_cells hA)
 have Kgl := Lib.hid hA.lt
 have Ki := Lib.hid (hI'.below ((Below.refl _ _).alloc (Nat.le_refl _) (.cells #[.slice A3 R.length c3, .slice A4 R.length c4, .slice A5 n c5, .slice A6 n c6] 29)))
 have Kbs := Lib.hid (hB'.below ((Below.refl _ _).alloc (Nat.le_refl _) (.cells #[.slice A3 R.length c3, .slice A4 R.length c4, .slice A5 n c5, .slice A6 n c6] 29)))
 have Ko := Lib.hid (hO'.below ((Below.refl _ _).alloc (Nat.le_refl _) (.cells #[.slice A3 R.length c3, .slice A4 R.length c4, .slice A5 n c5, .slice A6 n c6] 29)))
 have KR5 := Lib.hid ((KR1.out.below hb4).alloc (.cells #[.slice A3 R.length c3, .slice A4 R.length c4, .slice A5 n c5, .slice A6 n c6] 29))
 have Kb5 := Lib.hid (below_up (Kb1.out.trans (below_le hb4 Kb1.out.size)) (.cells #[.slice A3 R.length c3, .slice A4 R.length c4, .slice A5 n c5, .slice A6 n c6] 29))
 obtain ⟨W, hW⟩ : ∃ W, W = w4.alloc (.cells #[.slice A3 R.length c3, .slice A4 R.length c4, .slice A5 n c5, .slice A6 n c6] 29) := ⟨_, rfl⟩
 rw [← hW] at Kc Kgl Ki Kbs Ko KR5 Kb5
 have hR25 := KS.out.1
 have Kl := Lib.hid hn2.symm
 clear hb4 hPk hI hB hN hO hI' hB' hO' hA hn hn2 hn3 hm25 hsh sI sB sO Kpk KR1 Kb1 KT KP hT0
 have hp := Kc.out
 rw [hW] at hp
 obtain ⟨p0, p1, p2, p3⟩ := hp
 have KW := Lib.hid hW
 clear hW
 go_wp2_with fail
 rw [← KW.out]
 clear p0 p1 p2 p3
 obtain ⟨p0, p1, p2, p3⟩ := Kc.out
 have hgl := Kgl.out
 go_loopg [6] R.length (fun q t6 wr => ∃ i : Nat, t6 = .int .i64 (i : Int) ∧ i ≤ R.length ∧ q = R.length - i ∧ Below W.heap.size W wr)
 case atStart => exact ⟨0, rfl, by omega, by omega, Below.refl _ _⟩
 case round =>
  obtain ⟨i, rfl, hi, hq, hb⟩ := hrel
  have Kb := Lib.hid hb
  have Kq := Lib.hid hq
  clear hb hq
  by_cases hlt : i < R.length
  ·obtain ⟨r, hr⟩ : ∃ r, R[i]? = some r := ⟨_, List.getElem?_eq_getElem hlt⟩
   have hr25 := KS.out.2 r (List.mem_of_getElem? hr)
   obtain ⟨kd, hid, _⟩ := Tb.ids_at R i r hr
   have hbi := base_at R i kd hid
   have hii := idsI_at R i kd hid
   have hm := meets_of R i kd
   obtain ⟨p, hp⟩ : ∃ p, (Tb.pack (Tb.outs R)).pl.getD kd 0 = p := ⟨_, rfl⟩
   have hp5 := pl_small R KS.out kd
   rw [hp] at hbi hp5
   have Km := Lib.hid (fun a ha => hm a r hr hid (by rw [hp]; exact ha))
   have hid25 := ids_le KS.out kd (List.mem_of_getElem? hid)
   obtain ⟨b, o, c', A', c'', he, hc0, hrow0⟩ := KR5.out.cell hr
   have Khc := Lib.hid hc0
   have Klt := Lib.hid (cell_spot hc0).1
   simp only [Value.slice.injEq, true_and] at he
   obtain ⟨rfl, rfl⟩ := he
   have Krow := Lib.hid hrow0.nums
   obtain ⟨bi, oi, rfl, hbI, cI⟩ := Ki.out.each i hlt
   obtain ⟨bb, ob, rfl, hbB, cB⟩ := Kbs.out.each i hlt
   rw [hii] at cI
   rw [hbi] at cB
   have KcI := Lib.hid cI
   have KcB := Lib.hid cB
   have q1 : (0 : Int) ≤ (i : Int) := by omega
   have q2 : (i : Int) < (R.length : Int) := by omega
   have q3 : ((i : Int)).toNat = i := by omega
   clear hr hc0 hrow0 hid hbi hii hm hp cI cB p0 p1 p2 p3
   go_wp2_with fail
   go_loopg [7] p (fun q t7 wz => ∃ a : Nat, t7 = .int .i64 (a : Int) ∧ a ≤ p ∧ q = p - a ∧ Below W.heap.size W wz)
   case atStart => exact ⟨0, rfl, by omega, by omega, Kb.out⟩
   case round =>
    obtain ⟨a, rfl, ha, hq2, hbz⟩ := hrel
    have Kbz := Lib.hid hbz
    have Kq2 := Lib.hid hq2
    clear hbz hq2
    obtain ⟨p0, p1, p2, p3⟩ := Kc.out
    have p1 := (Kbz.out.cell (p := ⟨w4.heap.size, 1, none⟩) hgl).trans p1
    clear p0 p2 p3
    have cB := (Kbz.out.cell (p := ⟨bb, ob + i, none⟩) (Nat.lt_trans hbB hgl)).trans KcB.out
    by_cases hla : a < p
    ·have q4 : (a : Int) < (p : Int) := by omega
     have Kma := Lib.hid (Km.out a hla)
     go_wp2_with fail
     go_loopg [8, 9] r.length (fun q t8 t9 wy => ∃ (c : Nat) (m : Bool), t9 = .int .i64 (c : Int) ∧ t8 = .bool m ∧ c ≤ r.length ∧ q = r.length - c ∧ (m = true ↔ MeetsTo (Tb.pack (Tb.outs R)).ow r a (kd : Int) c) ∧ Below W.heap.size W wy)
     case atStart => exact ⟨0, false, rfl, rfl, by omega, by omega, ⟨fun h => (by cases h), fun ⟨c, hc, _⟩ => absurd hc (Nat.not_lt_zero _)⟩, Kbz.out⟩
     case round =>
      obtain ⟨c, m, rfl, rfl, hc, hq3, hm, hby⟩ := hrel
      have Kby := Lib.hid hby
      have Kq3 := Lib.hid hq3
      have Kmm := Lib.hid hm
      have hcc := (hby.cell (p := ⟨b, o + i, none⟩) Klt.out).trans Khc.out
      clear hby hq3 hm p1 cB
      by_cases hlc : c < r.length
      ·obtain ⟨p0, p1, p2, p3⟩ := Kc.out
       have p0 := (Kby.out.cell (p := ⟨w4.heap.size, 0, none⟩) hgl).trans p0
       have p3 := (Kby.out.cell (p := ⟨w4.heap.size, 3, none⟩) hgl).trans p3
       clear p1 p2
       have cI := (Kby.out.cell (p := ⟨bi, oi + i, none⟩) (Nat.lt_trans hbI hgl)).trans KcI.out
       obtain ⟨x, hx⟩ : ∃ x, r.getD c 0 = x := ⟨_, rfl⟩
       obtain ⟨b', o', rfl, hbr, c0⟩ := Krow.out.each c hlc
       rw [hx] at c0
       have c0 := (Kby.out.cell (p := ⟨b', o' + c, none⟩) hbr).trans c0
       obtain ⟨J, hJ⟩ : ∃ J, a + c = J := ⟨_, rfl⟩
       have q5 : (0 : Int) ≤ (c : Int) := by omega
       have q6 : (c : Int) < (r.length : Int) := by omega
       have q7 : ((c : Int)).toNat = c := by omega
       have q8 : (a : Int) + (c : Int) = (J : Int) := by omega
       have q9 : IntKind.i64.wrap ((a : Int) + (c : Int)) = (J : Int) := by rw [q8]; exact IntWalk.i64_in _ (by omega)
       have q10 : (0 : Int) ≤ (J : Int) := by omega
       have q11 : ((J : Int)).toNat = J := by omega
       have Kx := Lib.hid hx
       have KJ := Lib.hid hJ
       clear hx hJ
       cases m
       ·by_cases hz : x = 0
        ·subst hz
         go_wp2_with fail
         go_quiet (fail)
         go_wp2_with fail
         go_roundg (r.length - (c + 1))
         case measure => have := Kq3.out; omega
         case rel =>
          refine ⟨c + 1, false, by go_num, rfl, by omega, rfl, ?_, below_drewN Kby.out _⟩
          rw [MeetsTo.succ, ← Kmm.out]
          exact ⟨fun h => .inl h, fun h => h.elim (fun h => h) fun h => absurd Kx.out h.1⟩
        ·have z1 : (x == 0) = false := by simpa using hz
         have z2 : (x != 0) = true := by simpa using hz
         by_cases hJn : J < n
         ·have q12 : (J : Int) < (n : Int) := by omega
          obtain ⟨y, hy⟩ : ∃ y, (Tb.pack (Tb.outs R)).ow.getD J 0 = y := ⟨_, rfl⟩
          obtain ⟨bo, oo, rfl, hbo, c2⟩ := Ko.out.each J hJn
          rw [hy] at c2
          have c2 := (Kby.out.cell (p := ⟨bo, oo + J, none⟩) (Nat.lt_trans hbo hgl)).trans c2
          have Ky := Lib.hid hy
          clear hy
          by_cases hy0 : 0 < y
          ·by_cases hyi : y ≤ (kd : Int)
           ·go_wp2_with fail
            go_quiet (fail)
            go_wp2_with fail
            go_roundg (r.length - (c + 1))
            case measure => have := Kq3.out; omega
            case rel =>
             refine ⟨c + 1, true, by go_num, rfl, by omega, rfl, ?_, below_drewN Kby.out _⟩
             rw [MeetsTo.succ]
             refine ⟨fun _ => .inr ⟨?_, ?_, ?_⟩, fun _ => rfl⟩
             ·rw [Kx.out]; exact hz
             ·rw [KJ.out, Ky.out]; exact hy0
             ·rw [KJ.out, Ky.out]; exact hyi
           ·have z5 : decide (y ≤ (kd : Int)) = false := decide_eq_false hyi
            go_wp2_with fail
            go_quiet (fail)
            go_wp2_with fail
            go_roundg (r.length - (c + 1))
            case measure => have := Kq3.out; omega
            case rel =>
             refine ⟨c + 1, false, by go_num, rfl, by omega, rfl, ?_, below_drewN Kby.out _⟩
             rw [MeetsTo.succ, ← Kmm.out]
             exact ⟨fun h => .inl h, fun h => h.elim (fun h => h) fun h => absurd h.2.2 (by rw [KJ.out, Ky.out]; omega)⟩
          ·have z4 : decide (0 < y) = false := decide_eq_false hy0
           go_wp2_with fail
           go_quiet (fail)
           go_wp2_with fail
           go_roundg (r.length - (c + 1))
           case measure => have := Kq3.out; omega
           case rel =>
            refine ⟨c + 1, false, by go_num, rfl, by omega, rfl, ?_, below_drewN Kby.out _⟩
            rw [MeetsTo.succ, ← Kmm.out]
            exact ⟨fun h => .inl h, fun h => h.elim (fun h => h) fun h => absurd h.2.1 (by rw [KJ.out, Ky.out]; omega)⟩
         ·have q12 : ¬ (J : Int) < (n : Int) := by omega
          have Kn := Lib.hid hJn
          clear hJn
          go_wp2_with fail
          have z3 : decide (J < n) = false := decide_eq_false Kn.out
          go_quiet (fail)
          go_wp2_with fail
          go_roundg (r.length - (c + 1))
          case measure => have := Kq3.out; omega
          case rel =>
           refine ⟨c + 1, false, by go_num, rfl, by omega, rfl, ?_, below_drewN Kby.out _⟩
           rw [MeetsTo.succ, ← Kmm.out]
           refine ⟨fun h => .inl h, fun h => h.elim (fun h => h) fun h => ?_⟩
           have h1 := h.2.1
           rw [KJ.out, Tb.getD_out (by have := Kn.out; have := Kl.out; omega)] at h1
           omega
       ·have hmt := Kmm.out.1 rfl
        have Kmt := Lib.hid hmt
        clear hmt
        go_wp2_with fail
        go_quiet (fail)
        go_wp2_with fail
        go_roundg (r.length - (c + 1))
        case measure => have := Kq3.out; omega
        case rel =>
         refine ⟨c + 1, true, by go_num, rfl, by omega, rfl, ?_, below_drewN Kby.out _⟩
         rw [MeetsTo.succ]
         exact ⟨fun _ => .inl Kmt.out, fun _ => rfl⟩
      ·obtain rfl : c = r.length := by omega
       obtain rfl : m = true := Kmm.out.2 Kma.out
       go_wp2_with fail
       go_roundg (p - (a + 1))
       case measure => have := Kq2.out; omega
       case rel => exact ⟨a + 1, by go_num, by omega, rfl, Kby.out⟩
    ·obtain rfl : a = p := by omega
     go_wp2_with fail
     go_roundg (R.length - (i + 1))
     case measure => have := Kq.out; omega
     case rel => exact ⟨i + 1, by go_num, by omega, rfl, Kbz.out⟩
  ·obtain rfl : i = R.length := by omega
   go_wp2_with fail
   go_ret
   exact ⟨rfl, Kb5.out.trans (below_le Kb.out Kb5.out.size)⟩
end Go.Proofs.YtjcijffhcmbhnaaDoor
