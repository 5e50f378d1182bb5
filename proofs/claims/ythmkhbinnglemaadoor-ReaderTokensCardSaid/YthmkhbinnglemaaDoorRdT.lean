/-
  The walk of ReaderJoins.
-/
import Derived.Test.YthmkhbinnglemaaDoorRdP
import Derived.Test.YthmkhbinnglemaaDoorRdR
import Derived.Test.YthmkhbinnglemaaDoorRdS
import Derived.Deep.RegionHeld3
namespace Go.Proofs.YthmkhbinnglemaaDoor
open Go.RowKit
open Lx
set_option linter.unusedVariables false
set_option linter.unusedSimpArgs false
set_option maxRecDepth 100000

theorem own_empty (w : World) (e : TypeId) (size : Nat) : (w.alloc (.cells #[] e)).ownsRow w.heap.size e size (.slice (some ⟨w.heap.size, 0, none⟩) 0 0) 0 [] :=
  ⟨(Nat.zero_mul size).symm, .inr ⟨w.heap.size, 0, #[], rfl, Nat.le_refl _, At.new w e #[], Nat.le_refl _, by unfold maxLen; omega, (Nat.zero_mul size).symm, by simp⟩⟩
/-- append onto a row of one's own, as one step of a region that draws, be it guarded. -/
theorem step_append_own3 {P : Program} {ops : Array Oper} {o : Oper} {a : Act} {w : World} {K : Act → World → Prop} {Q : Exit → Act → World → Prop} {E : Prop}
    (hw : Region.wanted o (yielded ops a.tmps) = true) (s x : Operand) (t : TypeId) (hop : o.op = Op.call { callee := Callee.builtin Builtin.append, args := #[s, x], argTypes := #[t, t] })
    (base : Nat) (e : TypeId) (i : TypeInfo) (z : Value) (size bytes : Nat) (h1 : P.underlying t = some (.slice e)) (h2 : P.info? e = some i) (h3 : i.zero = some z) (h4 : i.size = size) (h5 : i.bytes = bytes) (h6 : z.cells.size = size) (h7 : 0 < size)
    (v : Value) (n : Nat) (xs : List Value) (hs : a.eval s = v) (hown : w.ownsRow base e size v n xs)
    (ad : Addr) (m c : Nat) (news : List Value) (hx : a.eval x = .slice (some ad) m c) (hn : news.length = m * size) (hc : ∀ j u, news[j]? = some u → w.cell? (ad.add j) = some u) (h1c : ∀ u ∈ news, u.oneCell' = true)
    (b1 : n + m ≤ maxLen) (b2 : (n + m) * bytes ≤ 140737488355328) (b3 : base ≤ w.heap.size)
    (hK : ∀ v' w', w'.ownsRow base e size v' (n + m) (xs ++ news) → w.grownBy w' v.ownBlock → SameOrNew w v v' → K (a.put o.dst v') w') :
    if Region.wanted o (yielded ops a.tmps) = true then Oper.wp P o a w K Q else E := by
  rw [if_pos hw]
  obtain ⟨v', w', hr, r1, r2, r3⟩ := run_append_own2 (P := P) w base t o.type e i z size bytes h1 h2 h3 h4 h5 h6 h7 v n xs hown ad m c news hn hc h1c b1 b2 b3
  unfold Oper.wp
  simp [execOp, hop, resolve, invoke, builtin, hs, hx, hr, Result.andThen]
  exact hK _ _ r1 r2 r3
theorem rulesV_length (ql : List (Rd.Rule × Value)) : (rulesV ql).length = ql.length * 4 := by
  induction ql with
  | nil => rfl
  | cons p r ih => simp [rulesV, ruleCells] at ih ⊢; omega
theorem rulesV_append (a b : List (Rd.Rule × Value)) : rulesV (a ++ b) = rulesV a ++ rulesV b := by simp [rulesV]
theorem rulesV_one (ql : List (Rd.Rule × Value)) (hp : ∀ p ∈ ql, ∃ A n c, p.2 = .slice A n c) : ∀ u ∈ rulesV ql, u.oneCell' = true := by
  intro u hu
  simp only [rulesV, List.mem_flatMap, ruleCells] at hu
  obtain ⟨p, h1, h2⟩ := hu
  obtain ⟨A, n, c, h3⟩ := hp p h1
  rw [h3] at h2
  simp at h2
  rcases h2 with rfl | rfl | rfl | rfl <;> rfl

theorem GramIs.rules {w : World} {st : ByteArray} {left : Rd.Name} {rs : List Rd.Rule} {A : Option Addr} {cap n : Nat} {ql : List (Rd.Rule × Value)} (h1 : str left = st) (h2 : n = rs.length) (h3 : ql.map (·.1) = rs) (h4 : Lie w 51 A (rulesV ql)) (h5 : ∀ p ∈ ql, Nms w p.2 p.1.right) :
    GramIs w (.agg #[.slice none 0 0, .slice none 0 0, .slice none 0 0, .string st, .slice A n cap]) ⟨[], [], [], left, rs⟩ := by
  subst h1 h2
  exact ⟨_, _, _, _, rfl, ⟨none, 0, rfl, Lie.nil _ _ _⟩, ⟨none, 0, rfl, Lie.nil _ _ _⟩, ⟨none, 0, [], rfl, rfl, Lie.nil _ _ _, by simp⟩, ⟨A, cap, ql, rfl, h3, h4, h5⟩⟩

theorem join_text (a b : ByteArray) (ha : a.size ≤ 300) (hb : b.size ≤ 300) : ((⟨#[37, 37]⟩ : ByteArray) ++ a ++ ⟨#[10]⟩ ++ b).size ≤ 9223372036854775807 ∧ bl ((⟨#[37, 37]⟩ : ByteArray) ++ a ++ ⟨#[10]⟩ ++ b) = 37 :: 37 :: (bl a ++ 10 :: bl b) := by
  have e37 : bl ⟨#[37, 37]⟩ = [37, 37] := rfl
  have e10 : bl ⟨#[10]⟩ = [10] := rfl
  have hZ : bl ((⟨#[37, 37]⟩ : ByteArray) ++ a ++ ⟨#[10]⟩ ++ b) = 37 :: 37 :: (bl a ++ 10 :: bl b) := by
    rw [bl_append, bl_append, bl_append, e37, e10, List.append_assoc, List.append_assoc, List.cons_append, List.cons_append, List.nil_append, List.cons_append, List.nil_append]
  refine ⟨?_, hZ⟩
  rw [← bl_length, hZ]
  have h1 := bl_length a
  have h2 := bl_length b
  simp only [List.length_cons, List.length_append]
  omega

set_option maxHeartbeats 4000000 in
theorem joins_law (a : ByteArray) (ha : a.size ≤ 9223372036854775807) (b : ByteArray) (hb : b.size ≤ 9223372036854775807) (W : World) (hT : Tab W) (h0 : 0 < W.heap.size) :
    Calls Tryd.prog 6 #[.string a, .string b] W fun e w' => e = .returned (.bool true) ∧ Below W.heap.size W w' := by
  have HT := Lib.hid hT
  clear hT
  obtain ⟨i0, hi, hz0, hz1, hz2⟩ := info_parts ruleinfo
  go_enter Tryd.func6, Tryd.ntmps6
  go_wp2_with fail
  refine (awake6_any _ HT.out h0).mono ?_
  rintro e w1 ⟨rfl, hb1⟩
  have HB1 := Lib.hid hb1
  have HT1 := Lib.hid (HT.out.below hb1 h0)
  have hs1 := hb1.size
  clear hb1
  by_cases ha3 : (300 : Int) < (a.size : Int)
  · go_wp2_with fail
    go_ret
    exact ⟨rfl, HB1.out⟩
  have ha4 : (a.size : Int) ≤ 300 := by omega
  clear ha3
  by_cases hb3 : (300 : Int) < (b.size : Int)
  · go_wp2_with fail
    go_ret
    exact ⟨rfl, HB1.out⟩
  have hb4 : (b.size : Int) ≤ 300 := by omega
  clear hb3
  go_wp2_with fail
  obtain ⟨GA, hGA⟩ : ∃ G, Rd.readG (37 :: 37 :: bl a) = G := ⟨_, rfl⟩
  obtain ⟨GB, hGB⟩ : ∃ G, Rd.readG (37 :: 37 :: bl b) = G := ⟨_, rfl⟩
  obtain ⟨GZ, hGZ⟩ : ∃ G, Rd.readG (37 :: 37 :: (bl a ++ 10 :: bl b)) = G := ⟨_, rfl⟩
  obtain ⟨DA, hDA⟩ : ∃ D, Rd.readD (37 :: 37 :: bl a) = D := ⟨_, rfl⟩
  obtain ⟨DB, hDB⟩ : ∃ D, Rd.readD (37 :: 37 :: bl b) = D := ⟨_, rfl⟩
  obtain ⟨DZ, hDZ⟩ : ∃ D, Rd.readD (37 :: 37 :: (bl a ++ 10 :: bl b)) = D := ⟨_, rfl⟩
  obtain ⟨cA, PA⟩ := DA
  obtain ⟨cB, PB⟩ := DB
  obtain ⟨cZ, PZ⟩ := DZ
  have HJ := Lib.hid (show cA = 0 → cB = 0 → _ from fun e1 e2 => by
    subst e1 e2
    have := Rd.read_join (bl a) (bl b) (by rw [bl_length]; omega) (by rw [bl_length]; omega) hDA hDB
    rw [hGA, hGB, hGZ, hDZ] at this
    have t1 := (Rd.read_good (P := PA) hDA).1.rules
    have t2 := (Rd.read_good (P := PB) hDB).1.rules
    rw [hGA] at t1
    rw [hGB] at t2
    exact And.intro (And.intro t1 t2) this)
  have HGA := Lib.hid hGA
  have HGB := Lib.hid hGB
  have HGZ := Lib.hid hGZ
  have HDA := Lib.hid hDA
  have HDB := Lib.hid hDB
  have HDZ := Lib.hid hDZ
  clear hGA hGB hGZ hDA hDB hDZ
  have hz37 : (⟨#[37, 37]⟩ : ByteArray).size = 2 := rfl
  have hz10 : (⟨#[10]⟩ : ByteArray).size = 1 := rfl
  refine (read_is _ GA (cA, PA) _ (by rw [ByteArray.size_append, hz37]; omega) HT1.out (by omega) (by rw [bl_append]; exact HGA.out) (by rw [bl_append]; exact HDA.out)).mono ?_
  rintro e w2 ⟨⟨gv, rfl, hgi⟩, hb2⟩
  obtain ⟨tv, sv, lv, rv, rfl, ⟨A1, u1, rfl, k1⟩, ⟨A2, u2, rfl, k2⟩, ⟨A3, u3, pl, rfl, q3, k3, j3⟩, ⟨A4, u4, ql, rfl, q4, k4, j4⟩⟩ := hgi.ex
  simp only [diagV]
  have hs2 := hb2.size
  obtain ⟨hg, hd, hbn⟩ := two_new w2 #[.slice A1 GA.toks.length u1, .slice A2 GA.skips.length u2, .slice A3 GA.levels.length u3, .string (str GA.start), .slice A4 GA.rules.length u4] #[.int .i64 (cA : Int), .int .i64 (PA.1 : Int), .int .i64 (PA.2 : Int)]
  go_wp2_with fail
  obtain ⟨W1, hW1⟩ : ∃ W1, (w2.alloc (.cells #[.slice A1 GA.toks.length u1, .slice A2 GA.skips.length u2, .slice A3 GA.levels.length u3, .string (str GA.start), .slice A4 GA.rules.length u4] 28)).alloc (.cells #[.int .i64 (cA : Int), .int .i64 (PA.1 : Int), .int .i64 (PA.2 : Int)] 33) = W1 := ⟨_, rfl⟩
  obtain ⟨g1, hge1⟩ : ∃ g1, w2.heap.size = g1 := ⟨_, rfl⟩
  have hB1 := HB1.out.trans ((hb2.trans (hbn.mono hs2)).mono hs1)
  have hTW1 := HT1.out.below (hb2.trans (hbn.mono hs2)) (by omega)
  rw [hW1] at hg hd hbn hB1 hTW1 ⊢
  have HK1 := Lib.hid (k4.below hbn)
  have HJ1 := Lib.hid (show ∀ p ∈ ql, Nms W1 p.2 p.1.right from fun p hp => (j4 p hp).stay (Stay.below hbn))
  have HQ1 := Lib.hid q4
  rw [hge1] at hg hd ⊢
  have HG1 := Lib.hid hg
  have HD1 := Lib.hid hd
  have HBW1 := Lib.hid hB1
  have HTW1 := Lib.hid hTW1
  have hS1 := hB1.size
  clear hgi k1 k2 k3 j3 k4 j4 q3 q4 hb2 hg hd hbn hB1 hTW1 hs2 hW1 hge1
  refine (read_is _ GB (cB, PB) _ (by rw [ByteArray.size_append, hz37]; omega) HTW1.out (by omega) (by rw [bl_append]; exact HGB.out) (by rw [bl_append]; exact HDB.out)).mono ?_
  rintro e w3 ⟨⟨gv, rfl, hgi⟩, hb3⟩
  obtain ⟨tv, sv, lv, rv, rfl, ⟨B1, v1, rfl, k1⟩, ⟨B2, v2, rfl, k2⟩, ⟨B3, v3, pl2, rfl, q3, k3, j3⟩, ⟨B4, v4, ql2, rfl, q4, k4, j4⟩⟩ := hgi.ex
  simp only [diagV]
  have hs3 := hb3.size
  have a1 := HG1.out.below hb3 HG1.out.lt
  have a2 := HD1.out.below hb3 HD1.out.lt
  have hl1 := a1.lt
  have hl2 := a2.lt
  have y0 := a2.cell 0
  simp only [List.getElem?_toArray, List.getElem?_cons_zero, List.getElem?_cons_succ] at y0
  obtain ⟨hg, hd, hbn⟩ := two_new w3 #[.slice B1 GB.toks.length v1, .slice B2 GB.skips.length v2, .slice B3 GB.levels.length v3, .string (str GB.start), .slice B4 GB.rules.length v4] #[.int .i64 (cB : Int), .int .i64 (PB.1 : Int), .int .i64 (PB.2 : Int)]
  have HB3 := Lib.hid hb3
  by_cases hcA : cA = 0
  rotate_left
  · have n1 : ((cA : Int) != 0) = true := by rw [bne_iff_ne]; omega
    have n2 : (cA != 0) = true := by rw [bne_iff_ne]; omega
    have HBN := Lib.hid (hb3.trans (hbn.mono hs3))
    clear hg hd hbn hb3 hgi k1 k2 k3 k4 j3 j4 q3 q4 hcA a1 a2
    go_wp2_with fail
    go_ret
    exact ⟨rfl, HBW1.out.trans (HBN.out.mono hS1)⟩
  by_cases hcB : cB = 0
  rotate_left
  · have n1 : ((cB : Int) != 0) = true := by rw [bne_iff_ne]; omega
    have n2 : (cB != 0) = true := by rw [bne_iff_ne]; omega
    have HBN := Lib.hid (hb3.trans (hbn.mono hs3))
    clear hg hd hbn hb3 hgi k1 k2 k3 k4 j3 j4 q3 q4 a1 a2
    subst hcA
    rw [show ((0 : Nat) : Int) = 0 from rfl] at y0
    go_wp2_with fail
    go_ret
    exact ⟨rfl, HBW1.out.trans (HBN.out.mono hS1)⟩
  obtain ⟨⟨ne1, ne2⟩, rs, rs', eA, eB, ok1, ok2, small, big⟩ := HJ.out hcA hcB
  subst hcA hcB eA eB
  have HSM := Lib.hid small
  have HBG := Lib.hid big
  clear small big HJ
  simp only [List.length_nil] at hg hd hbn a1 HG1 ne1 ne2 HQ1 q4 ⊢
  rw [show ((0 : Nat) : Int) = 0 from rfl] at y0 hd hbn hg ⊢
  obtain ⟨st, hst⟩ : ∃ st, str (rs.headD ⟨[], [], [], []⟩).left = st := ⟨_, rfl⟩
  obtain ⟨st', hst'⟩ : ∃ st', str (rs'.headD ⟨[], [], [], []⟩).left = st' := ⟨_, rfl⟩
  obtain ⟨n, hn⟩ : ∃ n, rs.length = n := ⟨_, rfl⟩
  obtain ⟨m, hm⟩ : ∃ m, rs'.length = m := ⟨_, rfl⟩
  rw [hst, hn] at a1 HG1
  rw [hst', hm] at hg hd hbn ⊢
  have hn40 : n ≤ 40 := hn ▸ ok1.1
  have hm40 : m ≤ 40 := hm ▸ ok2.1
  have HST := Lib.hid hst
  have HST' := Lib.hid hst'
  have HN := Lib.hid hn
  have HM := Lib.hid hm
  have HRR := Lib.hid (show ∀ r ∈ rs ++ rs', r.right.length ≤ 1000000 from fun r hr => by
    rcases List.mem_append.1 hr with h | h
    · have := (ok1.2 r h).2; omega
    · have := (ok2.2 r h).2; omega)
  have HNE1 := Lib.hid ne1
  have HNE2 := Lib.hid ne2
  have HK4 := Lib.hid k4
  have HJ4 := Lib.hid j4
  have HQ4 := Lib.hid q4
  have HGN := Lib.hid hg
  have HBNN := Lib.hid hbn
  clear hst hst' hn hm ne1 ne2 ok1 ok2 k1 k2 k3 k4 j3 j4 q3 q4 hgi a1 a2 hg hd hbn HGA HGB HDA HDB hb3
  go_wp2_with fail
  have hg := HGN.out
  have hbn := HBNN.out
  have k4 := HK4.out
  have j4 := HJ4.out
  obtain ⟨W2, hW2⟩ : ∃ W2, (w3.alloc (.cells #[.slice B1 0 v1, .slice B2 0 v2, .slice B3 0 v3, .string st', .slice B4 m v4] 28)).alloc (.cells #[.int .i64 0, .int .i64 (PB.1 : Int), .int .i64 (PB.2 : Int)] 33) = W2 := ⟨_, rfl⟩
  obtain ⟨g2, hge2⟩ : ∃ g2, w3.heap.size = g2 := ⟨_, rfl⟩
  have hBN := HB3.out.trans (hbn.mono hs3)
  rw [hW2] at hg hbn hBN ⊢
  have HG12 := Lib.hid (HG1.out.below hBN HG1.out.lt)
  have HK12 := Lib.hid (HK1.out.below hBN)
  have HJ12 := Lib.hid (show ∀ p ∈ ql, Nms W2 p.2 p.1.right from fun p hp => (HJ1.out p hp).stay (Stay.below hBN))
  have HK2 := Lib.hid (k4.below hbn)
  have HJ2 := Lib.hid (show ∀ p ∈ ql2, Nms W2 p.2 p.1.right from fun p hp => (j4 p hp).stay (Stay.below hbn))
  have HBW2 := Lib.hid (HBW1.out.trans (hBN.mono hS1))
  have HTW2 := Lib.hid (HTW1.out.below hBN (by omega))
  have hS2 := HBW2.out.size
  rw [hge2] at hg ⊢
  have HG2 := Lib.hid hg
  clear hg hbn k4 j4 hBN hW2 hge2 HB3 HK4 HJ4 HGN HBNN HK1 HJ1 HG1 HD1 HTW1 hl1 hl2 y0 hs3
  obtain ⟨hsz, hZ⟩ := join_text a b (by omega) (by omega)
  obtain ⟨T, hTT⟩ : ∃ T, (⟨#[37, 37]⟩ : ByteArray) ++ a ++ ⟨#[10]⟩ ++ b = T := ⟨_, rfl⟩
  rw [hTT] at hsz hZ ⊢
  have e1 : Rd.readG (bl T) = GZ := by rw [hZ]; exact HGZ.out
  have e2 : Rd.readD (bl T) = (cZ, PZ) := by rw [hZ]; exact HDZ.out
  have e3 : 0 < W2.heap.size := Nat.lt_of_lt_of_le h0 hS2
  have e4 := HTW2.out
  clear hZ HGZ HDZ HTW2 hTT hz37 hz10
  refine (read_is T GZ (cZ, PZ) W2 hsz e4 e3 e1 e2).mono ?_
  clear e1 e2 e3 e4
  rintro e w4 ⟨⟨gv, rfl, hgi⟩, hb4⟩
  have hs4 := hb4.size
  have p1 := HG12.out.below hb4 HG12.out.lt
  have p2 := HG2.out.below hb4 HG2.out.lt
  have hl1 := p1.lt
  have hl2 := p2.lt
  have x4 := p1.cell 4
  have y4 := p2.cell 4
  simp only [List.getElem?_toArray, List.getElem?_cons_zero, List.getElem?_cons_succ] at x4 y4
  have hn0 : (0 : Int) ≤ (n : Int) := by omega
  by_cases h40 : (40 : Int) < (n : Int) + (m : Int)
  · obtain ⟨R, hR, hz⟩ := HBG.out (by rw [HN.out, HM.out]; omega)
    obtain ⟨rfl, rfl⟩ := Prod.mk.inj hR
    subst hz
    obtain ⟨tv, sv, lv, rv, rfl, ⟨E1, e1, rfl, k1⟩, ⟨E2, e2, rfl, k2⟩, ⟨E3, e3, pl3, rfl, q3, k3, j3⟩, ⟨E4, e4, ql3, rfl, q4, k4, j4⟩⟩ := hgi.ex
    simp only [diagV, Rd.zero, List.length_nil] at hgi ⊢
    obtain ⟨hg, hd, hbn⟩ := two_new w4 #[.slice E1 0 e1, .slice E2 0 e2, .slice E3 0 e3, .string (str []), .slice E4 0 e4] #[.int .i64 (3 : Nat), .int .i64 (PZ.1 : Int), .int .i64 (PZ.2 : Int)]
    have HGI := Lib.hid (hgi.below hbn)
    have HBX := Lib.hid (HBW2.out.trans ((hb4.trans (hbn.mono hs4)).mono hS2))
    rw [show ((3 : Nat) : Int) = 3 from rfl] at HGI HBX ⊢
    clear hgi hR k1 k2 k3 k4 j3 j4 q3 q4 hg hd hbn p1 p2 hb4
    go_wp2_with fail
    refine (zero_any _ _ HGI.out).mono ?_
    rintro e w5 ⟨rfl, hb5⟩
    have HB5 := Lib.hid (HBX.out.trans (hb5.mono HBX.out.size))
    clear hb5
    go_wp2_with fail
    go_ret
    exact ⟨rfl, HB5.out⟩
  · obtain ⟨hR, hz⟩ := HSM.out (by rw [HN.out, HM.out]; omega)
    obtain ⟨rfl, rfl⟩ := Prod.mk.inj hR
    subst hz
    have hgi0 := hgi
    obtain ⟨tv, sv, lv, rv, rfl, ⟨E1, e1, rfl, k1⟩, ⟨E2, e2, rfl, k2⟩, ⟨E3, e3, pl3, rfl, q3, k3, j3⟩, ⟨E4, e4, ql3, rfl, q4, k4, j4⟩⟩ := hgi.ex
    simp only [diagV, List.length_nil, List.length_append, HST.out, HN.out, HM.out] at hgi ⊢
    obtain ⟨hg, hd, hbn⟩ := two_new w4 #[.slice E1 0 e1, .slice E2 0 e2, .slice E3 0 e3, .string st, .slice E4 (n + m) e4] #[.int .i64 (0 : Nat), .int .i64 (0 : Nat), .int .i64 (0 : Nat)]
    rw [show ((0 : Nat) : Int) = 0 from rfl] at hg hd hbn ⊢
    have HGI := Lib.hid (hgi.below hbn)
    have h41 : (n : Int) + (m : Int) ≤ 40 := by omega
    have hBX := HBW2.out.trans ((hb4.trans (hbn.mono hs4)).mono hS2)
    have hB4 := hb4.trans (hbn.mono hs4)
    have HGN := Lib.hid hg
    have HDN := Lib.hid hd
    have HBX := Lib.hid hBX
    have HB4 := Lib.hid hB4
    clear hgi hgi0 hR k1 k2 k3 k4 j3 j4 q3 q4 hg hd hbn p1 p2 hb4 h40 hBX hB4
    go_wp2_with fail
    have hg := HGN.out
    have hd := HDN.out
    have hBX := HBX.out
    have hB4 := HB4.out
    obtain ⟨W3, hW3⟩ : ∃ W3, (w4.alloc (.cells #[.slice E1 0 e1, .slice E2 0 e2, .slice E3 0 e3, .string st, .slice E4 (n + m) e4] 28)).alloc (.cells #[.int .i64 0, .int .i64 0, .int .i64 0] 33) = W3 := ⟨_, rfl⟩
    obtain ⟨g3, hge3⟩ : ∃ g3, w4.heap.size = g3 := ⟨_, rfl⟩
    rw [hW3] at hg hd hBX hB4 HGI ⊢
    rw [hge3] at hg hd ⊢
    have t1 := HG12.out.below hB4 HG12.out.lt
    have t2 := HG2.out.below hB4 HG2.out.lt
    have KEEP := Lib.hid (show ∀ w', Below W3.heap.size W3 w' → (w'.cell? ⟨g1, 3, none⟩ = some (.string st) ∧ w'.cell? ⟨g1, 4, none⟩ = some (.slice A4 n u4) ∧ w'.cell? ⟨g2, 4, none⟩ = some (.slice B4 m v4) ∧ w'.cell? ⟨g3 + 1, 0, none⟩ = some (.int .i64 0) ∧
        w'.cell? ⟨g3, 0, none⟩ = some (.slice E1 0 e1) ∧ w'.cell? ⟨g3, 1, none⟩ = some (.slice E2 0 e2) ∧ w'.cell? ⟨g3, 2, none⟩ = some (.slice E3 0 e3) ∧ w'.cell? ⟨g3, 3, none⟩ = some (.string st) ∧ w'.cell? ⟨g3, 4, none⟩ = some (.slice E4 (n + m) e4)) from fun w' hb =>
      ⟨(t1.below hb t1.lt).cell 3, (t1.below hb t1.lt).cell 4, (t2.below hb t2.lt).cell 4, (hd.below hb hd.lt).cell 0, (hg.below hb hg.lt).cell 0, (hg.below hb hg.lt).cell 1, (hg.below hb hg.lt).cell 2, (hg.below hb hg.lt).cell 3, (hg.below hb hg.lt).cell 4⟩)
    have hv1 : rulesV ql ≠ [] := fun e => by
      have h := congrArg List.length e
      have h2 := congrArg List.length HQ1.out
      rw [rulesV_length] at h
      rw [List.length_map] at h2
      have h3 := List.length_pos_iff.2 HNE1.out
      simp only [List.length_nil] at h; omega
    have hv2 : rulesV ql2 ≠ [] := fun e => by
      have h := congrArg List.length e
      have h2 := congrArg List.length HQ4.out
      rw [rulesV_length] at h
      rw [List.length_map] at h2
      have h3 := List.length_pos_iff.2 HNE2.out
      simp only [List.length_nil] at h; omega
    obtain ⟨r1, o1, rfl, hr1, f1⟩ := (HK12.out.below hB4).cell hv1
    obtain ⟨r2, o2, rfl, hr2, f2⟩ := (HK2.out.below hB4).cell hv2
    have HC1 := Lib.hid (show ∀ w', Below W3.heap.size W3 w' → ∀ j u, (rulesV ql)[j]? = some u → w'.cell? ((⟨r1, o1, none⟩ : Addr).add j) = some u from fun w' hb j u hj => by
      rw [Go.WideShapes.add_plain, hb.cell (p := ⟨r1, o1 + j, none⟩) hr1]; exact f1 j u hj)
    have HC2 := Lib.hid (show ∀ w', Below W3.heap.size W3 w' → ∀ j u, (rulesV ql2)[j]? = some u → w'.cell? ((⟨r2, o2, none⟩ : Addr).add j) = some u from fun w' hb j u hj => by
      rw [Go.WideShapes.add_plain, hb.cell (p := ⟨r2, o2 + j, none⟩) hr2]; exact f2 j u hj)
    have HL1 := Lib.hid (show (rulesV ql).length = n * 4 by rw [rulesV_length, ← List.length_map (f := (·.1)), HQ1.out, HN.out])
    have HL2 := Lib.hid (show (rulesV ql2).length = m * 4 by rw [rulesV_length, ← List.length_map (f := (·.1)), HQ4.out, HM.out])
    have HO1 := Lib.hid (rulesV_one ql fun p hp => by obtain ⟨A, c, h, _⟩ := HJ12.out p hp; exact ⟨A, _, c, h⟩)
    have HO2 := Lib.hid (rulesV_one ql2 fun p hp => by obtain ⟨A, c, h, _⟩ := HJ2.out p hp; exact ⟨A, _, c, h⟩)
    have HQQ := Lib.hid (show (ql ++ ql2).map (·.1) = rs ++ rs' by rw [List.map_append, HQ1.out, HQ4.out])
    have HJJ := Lib.hid (show ∀ p ∈ ql ++ ql2, Nms W3 p.2 p.1.right from fun p hp => by
      rcases List.mem_append.1 hp with h | h
      · exact (HJ12.out p h).stay (Stay.below hB4)
      · exact (HJ2.out p h).stay (Stay.below hB4))
    have HBX3 := Lib.hid hBX
    have HNM := Lib.hid (show n + m = (rs ++ rs').length by rw [List.length_append, HN.out, HM.out])
    have hkk0 := KEEP.out W3 (Below.refl _ _)
    have hS3 := hBX.size
    clear hg hd hBX hB4 hW3 hge3 t1 t2 hv1 hv2 f1 f2 HBX HB4 HGN HDN x4 y4
    have HAL := Lib.hid (below_drew ((Below.refl W3.heap.size W3).alloc (Nat.le_refl _) (.cells #[] 51)))
    have HOE := Lib.hid (own_empty W3 51 4).drew
    have hc1 : 0 + n ≤ maxLen := by unfold maxLen; omega
    have hc2 : (0 + n) * 72 ≤ 140737488355328 := by omega
    have hc3 : n + m ≤ maxLen := by unfold maxLen; omega
    have hc4 : (n + m) * 72 ≤ 140737488355328 := by omega
    obtain ⟨y1, y2, y3, y4, y5, y6, y7, y8, y9⟩ := id hkk0
    go_region_held3 (fun w' => w'.cell? ⟨g1, 3, none⟩ = some (.string st) ∧ w'.cell? ⟨g1, 4, none⟩ = some (.slice (some ⟨r1, o1, none⟩) n u4) ∧ w'.cell? ⟨g2, 4, none⟩ = some (.slice (some ⟨r2, o2, none⟩) m v4) ∧ w'.cell? ⟨g3 + 1, 0, none⟩ = some (.int .i64 0) ∧
        w'.cell? ⟨g3, 0, none⟩ = some (.slice E1 0 e1) ∧ w'.cell? ⟨g3, 1, none⟩ = some (.slice E2 0 e2) ∧ w'.cell? ⟨g3, 2, none⟩ = some (.slice E3 0 e3) ∧ w'.cell? ⟨g3, 3, none⟩ = some (.string st) ∧ w'.cell? ⟨g3, 4, none⟩ = some (.slice E4 (n + m) e4)) (first | exact KEEP.out _ HAL.out | exact hkk6 | exact hkk5 | exact hkk7 | exact hkk0) (first
      | (refine step_append_own3 (by rfl) _ _ 26 rfl W3.heap.size 51 i0 _ 4 72 Tryd.underlying26 hi hz0 hz1 hz2 rfl (by decide) _ 0 [] rfl HOE.out ⟨r1, o1, none⟩ n u4 (rulesV ql) rfl HL1.out (HC1.out _ HAL.out) HO1.out hc1 hc2 (by simp) ?_
         intro v5 w5 hown5 hg5 hn5
         rw [Nat.zero_add, List.nil_append] at hown5
         obtain ⟨a5, s5, rfl⟩ := own_form hown5
         have hb5 := HAL.out.grown hg5 (by simp) (fun j hj => (own_lt HOE.out j hj).1)
         have hkk5 := KEEP.out w5 hb5
         have hs5 := hb5.size)
      | (refine step_append_own3 (by rfl) _ _ 26 rfl W3.heap.size 51 i0 _ 4 72 Tryd.underlying26 hi hz0 hz1 hz2 rfl (by decide) _ n (rulesV ql) rfl hown5 ⟨r2, o2, none⟩ m v4 (rulesV ql2) rfl HL2.out (HC2.out _ hb5) HO2.out hc3 hc4 hs5 ?_
         intro v6 w6 hown6 hg6 hn6
         rw [← rulesV_append] at hown6
         obtain ⟨a6, s6, rfl⟩ := own_form hown6
         have hb6 := hb5.grown hg6 hs5 (fun j hj => (own_lt hown5 j hj).1)
         have hkk6 := KEEP.out w6 hb6)
      | (go_at_call 12
         refine Calls.mono (same_any _ _ ⟨[], [], [], (rs.headD ⟨[], [], [], []⟩).left, rs ++ rs'⟩ _ (HGI.out.below hb6) (GramIs.rules HST.out HNM.out HQQ.out (Lie.own hown6) (fun p hp => (HJJ.out p hp).stay (Stay.below hb6))) ⟨by simp, by simp, by simp, by rw [List.length_append, HN.out, HM.out]; omega⟩ (by simp) (HRR.out)) ?_
         rintro e w7 ⟨rfl, hb7⟩
         have hkk7 := KEEP.out w7 (hb6.trans (hb7.mono hb6.size))))
    go_wp2_with fail
    go_ret
    exact ⟨rfl, HBX3.out.trans ((hb6.trans (hb7.mono hb6.size)).mono hS3)⟩

end Go.Proofs.YthmkhbinnglemaaDoor
