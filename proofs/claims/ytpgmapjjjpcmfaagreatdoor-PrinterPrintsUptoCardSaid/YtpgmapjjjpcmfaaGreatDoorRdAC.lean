/-
  The walks of a reading's level, left, right, nonassoc.
  The walk of a reading's alternative.
  The walks of a reading's rule, rules.
-/
import Derived.Test.YtpgmapjjjpcmfaaGreatDoorRdAA
namespace Go.Proofs.YtpgmapjjjpcmfaaGreatDoor
open Go.RowKit
open Lx
set_option linter.unusedVariables false
set_option linter.unusedSimpArgs false
set_option maxRecDepth 100000

/-- What the rows of a body lie in stays. -/
structure Five (a w : World) : Prop where
  tok : Stay 41 a w
  pat : Stay 39 a w
  lev : Stay 50 a w
  rul : Stay 36 a w
  str : Stay 9 a w
section
variable {a w w' : World}
theorem Five.refl (w : World) : Five w w := ⟨Stay.refl _ _, Stay.refl _ _, Stay.refl _ _, Stay.refl _ _, Stay.refl _ _⟩
theorem Five.trans (h : Five a w) (k : Five w w') : Five a w' := ⟨h.tok.trans k.tok, h.pat.trans k.pat, h.lev.trans k.lev, h.rul.trans k.rul, h.str.trans k.str⟩
theorem Five.below (h : Five a w) (hb : Below w.heap.size w w') : Five a w' := h.trans ⟨Stay.below hb, Stay.below hb, Stay.below hb, Stay.below hb, Stay.below hb⟩
theorem Five.alloc (h : Five a w) (o : Obj) : Five a (w.alloc o) := h.below ((Below.refl _ _).alloc (Nat.le_refl _) o)
theorem Five.drew (h : Five a w) : Five a w.drew := h.below (below_drew (Below.refl _ _))
theorem Five.far {g : Nat} {cs : Array Value} (h : Five a w) (hg : At w g 135 cs) (hk : w.grownBy w' (some g)) : Five a w' :=
  h.trans ⟨Stay.far hg (by decide) hk, Stay.far hg (by decide) hk, Stay.far hg (by decide) hk, Stay.far hg (by decide) hk, Stay.far hg (by decide) hk⟩
theorem not_cells {w : World} {m : Nat} {lev : List Rd.Name} (h : HasSet w m lev) : ∀ k, some m = some k → ∀ t cs, ¬ At w k t cs := by
  rintro k e t cs hc
  injection e with e
  exact h.ne hc e
theorem Five.set_ {m : Nat} {lev : List Rd.Name} (h : Five a w) (hs : HasSet w m lev) (hk : w.grownBy w' (some m)) : Five a w' :=
  ⟨h.tok.grown hk fun k e => .inr (not_cells hs k e _), h.pat.grown hk fun k e => .inr (not_cells hs k e _), h.lev.grown hk fun k e => .inr (not_cells hs k e _), h.rul.grown hk fun k e => .inr (not_cells hs k e _), h.str.grown hk fun k e => .inr (not_cells hs k e _)⟩
theorem Five.new {row : Option Nat} (h : Five a w) (hk : w.grownBy w' row) (hr : ∀ k, row = some k → a.heap.size ≤ k) : Five a w' :=
  ⟨h.tok.grown hk fun k e => .inl (hr k e), h.pat.grown hk fun k e => .inl (hr k e), h.lev.grown hk fun k e => .inl (hr k e), h.rul.grown hk fun k e => .inl (hr k e), h.str.grown hk fun k e => .inl (hr k e)⟩
end

theorem Body.levels_ {w w' : World} {B : Nat} {x : Tl} {d : Rd.Decls} {rs : List Rd.Rule} {lev : List Rd.Name} (h : Body w B x d rs lev) {v' vn : Value} {l : Rd.Lev} {pl : List (Rd.Lev × Value)} (hpl : pl.map (·.1) = d.levels) (hn : ∀ p ∈ pl, Nms w p.2 p.1.names) (hown : w.ownsRow B 50 2 x.l d.levels.length (levsV pl))
    (ho : w'.ownsRow B 50 2 v' (d.levels.length + 1) (levsV pl ++ levCells (l, vn))) (hl : Nms w vn l.names) (hg : w.grownBy w' x.l.ownBlock) :
    Body w' B { x with l := v' } { d with levels := d.levels ++ [l] } rs lev := by
  have hm : HasSet w' x.m lev := h.set_.kept hg (fun e => by
    rcases hown.2 with ⟨e1, _⟩ | ⟨g, cap, cur, e1, _, hgg, _⟩
    · rw [e1] at e; simp [Value.ownBlock] at e
    · rw [e1] at e
      simp [Value.ownBlock] at e
      exact h.set_.ne (g := g) (t := _) (cs := cur) hgg e)
  have hs : Stay 9 w w' := Stay.own hown (by decide) hg
  refine ⟨own_stay h.tok (Stay.own hown (by decide) hg), own_stay h.skp (Stay.own hown (by decide) hg), ⟨pl ++ [(l, vn)], by simp [hpl], by rw [levsV_snoc, List.length_append]; exact ho, fun p hp => ?_⟩, h.st, ?_, hm, h.b, h.base⟩
  · rcases List.mem_append.1 hp with hp | hp
    · exact (hn p hp).stay hs
    · simp at hp; subst hp; exact hl.stay hs
  · obtain ⟨ql, e, h6, h7⟩ := h.rls
    exact ⟨ql, e, own_stay h6 (Stay.own hown (by decide) hg), fun p hp => (h7 p hp).stay hs⟩

theorem names_stop {lev acc : List Rd.Name} {ms : List Mk} (h : ¬ (Rd.hd ms).kind = 1) : Rd.names lev ms acc = .ok acc ms := by
  cases ms with
  | nil => rfl
  | cons m r => rw [Rd.hd_cons] at h; unfold Rd.names; rw [if_neg h]
theorem names_twice {lev acc : List Rd.Name} {ms : List Mk} (h : (Rd.hd ms).kind = 1) (h2 : (Rd.hd ms).text ∈ lev ++ acc) : Rd.names lev ms acc = .bad 15 ms := by
  cases ms with
  | nil => simp [Rd.hd_nil] at h
  | cons m r => rw [Rd.hd_cons] at h h2; unfold Rd.names; rw [if_pos h, if_pos h2]
theorem names_on {lev acc : List Rd.Name} {ms : List Mk} (h : (Rd.hd ms).kind = 1) (h2 : ¬ (Rd.hd ms).text ∈ lev ++ acc) : Rd.names lev ms acc = Rd.names lev ms.tail (acc ++ [(Rd.hd ms).text]) := by
  cases ms with
  | nil => simp [Rd.hd_nil] at h
  | cons m r => rw [Rd.hd_cons] at h h2 ⊢; conv => lhs; unfold Rd.names
                rw [if_pos h, if_neg h2]; rfl
theorem hd_sane {ms : List Mk} (h : Sane ms) : (Rd.hd ms).text.length ≤ 4000 := by
  cases ms with
  | nil => simp [Rd.hd_nil]
  | cons m r => exact h.2 m (by simp)

/-- How many marks are left, as memory has it. -/
def restLen (w : World) (g : Nat) : Nat := match w.cell? ⟨g, 0, none⟩ with | some (.slice _ n _) => n | _ => 0
theorem Rest.count {w : World} {g : Nat} {x : Tl} {ms : List Mk} (h : Rest w g x ms) : restLen w g = ms.length := by
  obtain ⟨A, cap, _, h1, _⟩ := h.ex
  have := h1.cell 0
  simp only [Tl.cells, List.getElem?_toArray, List.getElem?_cons_zero] at this
  unfold restLen; rw [this]

theorem At.four_ {w : World} {g : Nat} {t : TypeId} {a b c d : Value} (h : At w g t #[a, b, c, d]) (a' b' c' d' : Value) :
    At ((((w.setCell ⟨g, 0, none⟩ a').setCell ⟨g, 1, none⟩ b').setCell ⟨g, 2, none⟩ c').setCell ⟨g, 3, none⟩ d') g t #[a', b', c', d'] := by
  have := (((h.set 0 a').set 1 b').set 2 c').set 3 d'
  simpa using this
theorem HasSet.below {w w' : World} {m : Nat} {lev : List Rd.Name} (h : HasSet w m lev) (hb : Below w.heap.size w w') : HasSet w' m lev :=
  h.kept (row := none) ⟨hb.os, hb.tape, hb.output, hb.size, fun i hi _ => hb.block i hi⟩ (by simp)
theorem levelled_snoc (d : Rd.Decls) (a : Nat) (l : List Rd.Name) : Rd.levelled { d with levels := d.levels ++ [⟨a, l⟩] } = Rd.levelled d ++ l := by simp [Rd.levelled]

def markCells (m : Mk) : Array Value := #[.int .i64 (m.kind : Int), .string (str m.text), .int .i64 (m.line : Int), .int .i64 (m.col : Int)]

set_option maxHeartbeats 4000000 in
theorem level_any (a : Nat) (ha : a ≤ 3) (B g m : Nat) (d : Rd.Decls) (ms : List Mk) (w : World) (hr : RdAt w B g m d [] (Rd.levelled d) ms) (hne : ms ≠ []) :
    Calls Tryz.prog 144 #[.pointer (some ⟨g, 0, none⟩), .int .i64 (a : Int)] w fun e w' => Told B g m (Rd.level a d ms) e w' ∧ Fr B m w w' := by
  obtain ⟨x, hre, hbo, rfl⟩ := hr.ex
  have hB := hr.base
  have HS := Lib.hid hr.small
  obtain ⟨A, cap, hcap, hat, hli⟩ := hre.ex
  have hlt := hat.lt
  obtain ⟨pl, hpl, hown, hnm⟩ := hbo.lvs
  obtain ⟨ao, so, hx⟩ := own_form hown
  have HRE := Lib.hid hre
  have HBO := Lib.hid hbo
  have HAT := Lib.hid hat
  have HX := Lib.hid hx
  have HPL := Lib.hid hpl
  have HOWN := Lib.hid hown
  have HNM := Lib.hid hnm
  have c3 := hat.cell 3
  simp only [Tl.cells, List.getElem?_toArray, List.getElem?_cons_zero, List.getElem?_cons_succ] at c3
  rw [hx] at c3
  clear hr hre hbo hat hli hx hpl hown hnm
  by_cases h10 : d.levels.length = 10
  · have e : Rd.level a d ms = .bad 3 ms := by unfold Rd.level; rw [if_pos h10]
    rw [e]
    rw [h10] at c3
    clear e h10
    go_enter Tryz.func144, Tryz.ntmps144
    go_wp2_with fail
    go_ret
    exact ⟨⟨rfl, x, HRE.out⟩, Fr.refl _ _ _⟩
  · obtain ⟨N, hN⟩ : ∃ N, d.levels.length = N := ⟨_, rfl⟩
    have hn4 : ((N : Int) == 10) = false := by rw [beq_eq_false_iff_ne]; omega
    have hn5 : (N == 10) = false := by rw [beq_eq_false_iff_ne]; omega
    have hn10 : N ≤ 10 := by have := HS.out.2.2.1; omega
    have hlv : ∀ l r, Rd.names (Rd.levelled d) ms.tail [] = .ok l r → Rd.level a d ms = if l = [] then .bad 14 r else .ok { d with levels := d.levels ++ [⟨a, l⟩] } r := by
      intro l r h; unfold Rd.level; rw [if_neg h10, h]
    have hlb : ∀ r, Rd.names (Rd.levelled d) ms.tail [] = .bad 15 r → Rd.level a d ms = .bad 15 r := by
      intro r h; unfold Rd.level; rw [if_neg h10, h]
    have HLO := Lib.hid hlv
    have HLB := Lib.hid hlb
    have HN := Lib.hid hN
    have HN10 := Lib.hid (show N ≠ 10 by omega)
    rw [hN] at c3
    clear hlv hlb hN h10
    obtain ⟨RES, hRES⟩ : ∃ RES, Rd.names (Rd.levelled d) ms.tail [] = RES := ⟨_, rfl⟩
    have HRES := Lib.hid hRES
    clear hRES
    obtain ⟨i0, hi, hz0, hz1, hz2⟩ := info_parts strinfo
    obtain ⟨i1, hi1, hy0, hy1, hy2⟩ := info_parts levinfo
    go_enter Tryz.func144, Tryz.ntmps144
    go_wp2_with fail
    refine (next_any g x ms _ HRE.out hne).mono ?_
    rintro e w1 ⟨rfl, hr1, hg1⟩
    have HR1 := Lib.hid hr1
    have HG1 := Lib.hid hg1
    clear hr1 hg1 c3
    go_wp2_with fail
    refine (here_any g x ms.tail _ HR1.out).mono ?_
    obtain ⟨M, hM⟩ : ∃ M, Rd.hd ms.tail = M := ⟨_, rfl⟩
    rw [hM]
    rintro e w2 ⟨rfl, hb2⟩
    have hs2 : w.heap.size ≤ w2.heap.size := Nat.le_trans HG1.out.size hb2.size
    have hR2 := (HR1.out.below hb2).alloc (.cells (markCells M) 124)
    have hF2 := ((Five.refl w).far HAT.out HG1.out).below hb2 |>.alloc (.cells (markCells M) 124)
    have hE2 := ((HBO.out.set_.kept HG1.out (by simpa using HBO.out.set_.ne HAT.out)).kept (row := none) ⟨hb2.os, hb2.tape, hb2.output, hb2.size, fun i hi _ => hb2.block i hi⟩ (by simp)).kept (World.grownBy_alloc w2 (.cells (markCells M) 124) none) (by simp)
    have hFr2 := ((Fr.at_ (m := x.m) HAT.out HG1.out hB).trans (Fr.of_below hb2 (by have := HG1.out.size; omega))).alloc (by omega) (.cells (markCells M) 124)
    have hM2 := At.new w2 124 (markCells M)
    rw [← hM] at hM2 hR2 hF2 hE2 hFr2
    have HR2 := Lib.hid hR2
    have HF2 := Lib.hid hF2
    have HE2 := Lib.hid hE2
    have HFr2 := Lib.hid hFr2
    have HM2 := Lib.hid hM2
    clear hb2 hR2 hF2 hE2 hFr2 hM2
    rw [← hM]
    clear hM
    unfold Mk.val
    go_wp2_with fail
    have HMS := Lib.hid (show (Rd.levelled d).length + ms.tail.length ≤ 1000000 by have := HS.out.2.2.2.2; simp; omega)
    go_loopw [5, 6] (fun v5 v6 wr => ∃ (acc : List Rd.Name) (rest : List Mk) (gm : Nat) (a5 : Option Addr) (s5 : Nat), v5 = .slice a5 acc.length s5 ∧ v6 = .pointer (some ⟨gm, 0, none⟩) ∧ At wr gm 124 (markCells (Rd.hd rest)) ∧ Rest wr g x rest ∧ Five w wr ∧ HasSet wr x.m (Rd.levelled d ++ acc) ∧ Fr B x.m w wr ∧
        wr.ownsRow w.heap.size 9 1 (.slice a5 acc.length s5) acc.length (namesV acc) ∧ Rd.names (Rd.levelled d) rest acc = RES ∧ (Rd.levelled d).length + acc.length + rest.length ≤ 1000000) (fun _ _ wr => restLen wr g)
    case atStart => exact ⟨[], ms.tail, w2.heap.size, none, 0, rfl, rfl, HM2.out, HR2.out, HF2.out, by rw [List.append_nil]; exact HE2.out, HFr2.out, World.ownsRow_nil _ _ _ _, HRES.out, by simpa using HMS.out⟩
    case round =>
      obtain ⟨acc, rest, gm, a5, s5, rfl, rfl, hm, hr, hf, he, hfr, hown, hnames, hcount⟩ := hrel
      have HM := Lib.hid hm
      have HR := Lib.hid hr
      have HF := Lib.hid hf
      have HE := Lib.hid he
      have HFR := Lib.hid hfr
      have HO := Lib.hid hown
      have HNS := Lib.hid hnames
      have HC := Lib.hid hcount
      obtain ⟨M, hM⟩ : ∃ M, Rd.hd rest = M := ⟨_, rfl⟩
      have HMM := Lib.hid hM
      have hsane := hd_sane hr.len
      rw [hM] at hsane
      obtain ⟨A3, cap3, hcap3, hat3, hli3⟩ := hr.ex
      have HAT3 := Lib.hid hat3
      have HLI3 := Lib.hid hli3
      rw [hM] at hm
      have m0 := hm.cell 0
      have m1 := hm.cell 1
      have m2 := hm.cell 2
      have m3 := hm.cell 3
      simp only [markCells, List.getElem?_toArray, List.getElem?_cons_zero, List.getElem?_cons_succ] at m0 m1 m2 m3
      have c0 := hat3.cell 0
      have c1 := hat3.cell 1
      have c2 := hat3.cell 2
      have c3 := hat3.cell 3
      have c4 := hat3.cell 4
      have c5 := hat3.cell 5
      have c6 := hat3.cell 6
      have c7 := hat3.cell 7
      have cf := hat3.frozen
      simp only [Tl.cells, List.getElem?_toArray, List.getElem?_cons_zero, List.getElem?_cons_succ] at c0 c1 c2 c3 c4 c5 c6 c7
      have hgl := hat3.lt
      have hml := hm.lt
      clear hm hr hf he hfr hown hnames hcount hat3 hli3 HM2 HR2 HF2 HE2 HFr2
      by_cases h1 : M.kind = 1
      · have k1 : ((M.kind : Int) == 1) = true := by rw [beq_iff_eq]; omega
        have k2 : (M.kind == 1) = true := by rw [beq_iff_eq]; omega
        have H1 := Lib.hid h1
        clear h1
        by_cases hin : M.text ∈ Rd.levelled d ++ acc
        · have hl1 := (HE.out.kept (w' := wr.drew) (row := none) ⟨rfl, rfl, rfl, Nat.le_refl _, fun _ _ _ => rfl⟩ (by simp)).look M.text hsane
          have hl2 : ∀ o, _ := fun o => (HE.out.kept (w' := (wr.alloc o).drew) (row := none) (grown_drew (World.grownBy_alloc wr o none)) (by simp)).look M.text hsane
          rw [decide_eq_true hin] at hl1
          simp only [decide_eq_true hin] at hl2
          have HIN := Lib.hid hin
          clear hin
          go_wp2_with fail
          go_region
          go_wp2_with fail
          go_ret
          refine ⟨?_, (HFR.out.alloc (by omega) _).drew⟩
          rw [HLB.out rest (by rw [HRES.out, ← HNS.out]; exact names_twice (by rw [HMM.out]; exact H1.out) (by rw [HMM.out]; exact HIN.out))]
          exact ⟨rfl, x, (HR.out.alloc _).drew⟩
        · have hl1 := (HE.out.kept (w' := wr.drew) (row := none) ⟨rfl, rfl, rfl, Nat.le_refl _, fun _ _ _ => rfl⟩ (by simp)).look M.text hsane
          have hl2 : ∀ o, _ := fun o => (HE.out.kept (w' := (wr.alloc o).drew) (row := none) (grown_drew (World.grownBy_alloc wr o none)) (by simp)).look M.text hsane
          rw [decide_eq_false hin] at hl1
          simp only [decide_eq_false hin] at hl2
          have hon := names_on (lev := Rd.levelled d) (acc := acc) (ms := rest) (by rw [HMM.out]; exact H1.out) (by rw [HMM.out]; exact hin)
          rw [HMM.out] at hon
          have HON := Lib.hid hon
          have hrne : rest ≠ [] := ne_of_kind (k := 1) (by rw [HMM.out]; exact H1.out) (by omega)
          clear hin hon
          go_wp2_with fail
          go_region
          go_wp2_with fail
          have hb4 : Below wr.heap.size wr (wr.alloc (.cells #[] 107)).drew := below_drew ((Below.refl _ _).alloc (Nat.le_refl _) _)
          obtain ⟨W4, hW4⟩ : ∃ W4, (wr.alloc (.cells #[] 107)).drew = W4 := ⟨_, rfl⟩
          rw [hW4] at hb4 ⊢
          have hs4 := hb4.size
          have HM4 := Lib.hid (HM.out.below hb4 HM.out.lt)
          have HR4 := Lib.hid (HR.out.below hb4)
          have HF4 := Lib.hid (HF.out.below hb4)
          have HE4 := Lib.hid (HE.out.below hb4)
          have HFR4 := Lib.hid (HFR.out.trans (Fr.of_below hb4 (by omega)))
          have HO4 := Lib.hid (own_below HO.out hb4 (fun k hk => (own_lt HO.out k hk).2))
          have HAT4 := Lib.hid (HAT3.out.below hb4 HAT3.out.lt)
          have hlc : (Rd.levelled d ++ acc).length ≤ 1000000 := by have := HC.out; rw [List.length_append]; omega
          obtain ⟨w5, hrun, he5, hg5⟩ := (HE4.out.kept (w' := W4.drew) (row := none) ⟨rfl, rfl, rfl, Nat.le_refl _, fun _ _ _ => rfl⟩ (by simp)).put M.text hsane hlc
          have hne4 : some gm ≠ some x.m := fun e => (HE4.out.ne HM4.out) (by injection e with e; exact e.symm)
          have hne5 : some g ≠ some x.m := fun e => (HE4.out.ne HAT4.out) (by injection e with e; exact e.symm)
          have hg5' : W4.grownBy w5 (some x.m) := grown_trans (grown_drew (grown_refl _ _)) hg5
          have HM5 := Lib.hid (HM4.out.grown hg5' hne4)
          have HAT5 := Lib.hid (HAT4.out.grown hg5' hne5)
          have hR5 : Rest w5 g x rest := HR4.out.stay (fun b cs hb => hb.grown hg5' (fun e => HE4.out.ne hb (by injection e with e; exact e.symm))) (fun b cs hb => hb.grown hg5' (fun e => HE4.out.ne hb (by injection e with e; exact e.symm)))
          have HR5 := Lib.hid hR5
          have HF5 := Lib.hid (HF4.out.set_ HE4.out hg5')
          have HE5 := Lib.hid he5
          have HFR5 := Lib.hid (HFR4.out.trans (Fr.map_ hg5' HBO.out.base (by omega)))
          have HO5 := Lib.hid (own_stay HO4.out (fun b cs hb => hb.grown hg5' (fun e => HE4.out.ne hb (by injection e with e; exact e.symm))))
          have c6' := HAT4.out.cell 6
          have m1' := HM4.out.cell 1
          have n1 := HM5.out.cell 1
          rw [HMM.out] at m1' n1
          simp only [Tl.cells, markCells, List.getElem?_toArray, List.getElem?_cons_zero, List.getElem?_cons_succ] at c6' m1' n1
          have hs5 : w.heap.size ≤ w5.heap.size := Nat.le_trans HFR4.out.below.size hg5'.size
          have hgm5 := HM5.out.lt
          clear hW4 hb4 hR5 he5 hg5 hg5' hl1 hl2 c0 c1 c2 c3 c4 c5 c6 c7 cf m0 m1 m2 m3 hs4
          go_region
          have hal : acc.length ≤ 1000000 := by have := HC.out; omega
          go_wp2_with (at_builtin; refine wpList_append_own2 _ rfl (.tmp 43) (.tmp 46) 34 rfl w.heap.size 9 i0 _ 1 16 Tryz.underlying34 hi hz0 hz1 hz2 rfl (by decide) _ _ _ rfl (HO5.out.alloc _) ⟨w5.heap.size, 0, none⟩ 1 1 [.string (str M.text)] rfl rfl (cells_new _ _ _) (by simp [Value.oneCell']) (by unfold maxLen; omega) (by omega) (by simp; omega) ?_)
          intro v' w6 hown6 hg6 hn6
          obtain ⟨a6, s6, rfl⟩ := own_form hown6
          have hg6' : w5.grownBy w6 (Value.slice a5 acc.length s5).ownBlock := grown_trans (World.grownBy_alloc _ _ _) hg6
          have hnew : ∀ k, (Value.slice a5 acc.length s5).ownBlock = some k → w.heap.size ≤ k := fun k hk => (own_lt HO5.out k hk).1
          have HM6 := Lib.hid (HM5.out.grown hg6' (fun e => own_apart HO5.out HM5.out (by decide) e.symm))
          have HAT6 := Lib.hid (HAT5.out.grown hg6' (fun e => own_apart HO5.out HAT5.out (by decide) e.symm))
          have HR6 := Lib.hid (HR5.out.stay (Stay.own HO5.out (by decide) hg6') (Stay.own HO5.out (by decide) hg6'))
          have HF6 := Lib.hid (HF5.out.new hg6' hnew)
          have HE6 := Lib.hid (HE5.out.kept hg6' (fun e => by
            rcases HO5.out.2 with ⟨e1, _⟩ | ⟨g', cap', cur, e1, _, hgg, _⟩
            · rw [e1] at e; simp [Value.ownBlock] at e
            · rw [e1] at e
              simp [Value.ownBlock] at e
              exact HE5.out.ne (g := g') (t := _) (cs := cur) hgg e))
          have HFR6 := Lib.hid (HFR5.out.trans (Fr.own HO5.out hg6' (by omega) (by omega)))
          have HO6 := Lib.hid hown6
          clear hown6 hg6 hg6' hn6 hnew c6' m1' n1 hs5
          go_wp2_with fail
          refine (next_any g x rest _ HR6.out hrne).mono ?_
          rintro e w7 ⟨rfl, hr7, hg7⟩
          have HR7 := Lib.hid hr7
          have HM7 := Lib.hid (HM6.out.grown hg7 (fun e => by
            injection e with e
            have h1 := HM6.out
            rw [e] at h1
            have h2 := HAT6.out
            unfold At at h1 h2
            rw [h1] at h2
            injection h2 with h2
            injection h2 with _ h2
            exact absurd h2 (by decide)))
          have HF7 := Lib.hid (HF6.out.far HAT6.out hg7)
          have HE7 := Lib.hid (HE6.out.kept hg7 (by simpa using HE6.out.ne HAT6.out))
          have HFR7 := Lib.hid (HFR6.out.trans (Fr.at_ HAT6.out hg7 hB))
          have HO7 := Lib.hid (own_stay HO6.out (Stay.far HAT6.out (by decide) hg7))
          have n0 := HM7.out.cell 0
          have n1 := HM7.out.cell 1
          have n2 := HM7.out.cell 2
          have n3 := HM7.out.cell 3
          rw [HMM.out] at n0 n1 n2 n3
          simp only [markCells, List.getElem?_toArray, List.getElem?_cons_zero, List.getElem?_cons_succ] at n0 n1 n2 n3
          have hs7 : w.heap.size ≤ w7.heap.size := HFR7.out.below.size
          clear hr7 hg7
          go_wp2_with fail
          refine (here_any g x rest.tail _ (HR7.out.alloc _)).mono ?_
          obtain ⟨M', hM'⟩ : ∃ M', Rd.hd rest.tail = M' := ⟨_, rfl⟩
          rw [hM']
          rintro e w8 ⟨rfl, hb8⟩
          have HN8 := Lib.hid ((At.new w7 124 (markCells M)).below hb8 (by simp))
          have hb8' : Below w7.heap.size w7 w8 := ((Below.refl _ _).alloc (Nat.le_refl _) _).trans (hb8.mono (by simp))
          have q0 := HN8.out.cell 0
          have q1 := HN8.out.cell 1
          have q2 := HN8.out.cell 2
          have q3 := HN8.out.cell 3
          have qf := HN8.out.frozen
          simp only [markCells, List.getElem?_toArray, List.getElem?_cons_zero, List.getElem?_cons_succ] at q0 q1 q2 q3
          have HB8 := Lib.hid hb8'
          have HMM' := Lib.hid hM'
          obtain ⟨gn, hgn⟩ : ∃ gn, w7.heap.size = gn := ⟨_, rfl⟩
          rw [hgn] at HN8 q0 q1 q2 q3 qf ⊢
          have HGN := Lib.hid hgn
          clear hb8 hb8' hM' n0 n1 n2 n3 hgn
          unfold Mk.val
          go_wp2_with fail
          go_roundw
          case rel =>
            have hge : w7.heap.size ≤ gn := by rw [HGN.out]; exact Nat.le_refl _
            have hb9 := (((HB8.out.setCell (p := ⟨gn, 0, none⟩) hge (.int .i64 (M'.kind : Int))).setCell (p := ⟨gn, 1, none⟩) hge (.string (str M'.text))).setCell (p := ⟨gn, 2, none⟩) hge (.int .i64 (M'.line : Int))).setCell (p := ⟨gn, 3, none⟩) hge (.int .i64 (M'.col : Int))
            refine ⟨acc ++ [M.text], rest.tail, gn, a6, s6, by rw [List.length_append]; rfl, rfl, ?_, HR7.out.below hb9, HF7.out.below hb9, ?_, HFR7.out.trans (Fr.of_below hb9 (by omega)), ?_, ?_, ?_⟩
            · rw [HMM'.out]; exact HN8.out.four_ _ _ _ _
            · rw [← List.append_assoc]; exact HE7.out.below hb9
            · rw [namesV_snoc, List.length_append]; exact own_below HO7.out hb9 (fun k hk => (own_lt HO7.out k hk).2)
            · rw [← HNS.out, HON.out]
            · have := HC.out
              have := Rd.hd_lt (ms := rest) (by rw [HMM.out, H1.out]; omega)
              simp only [List.length_append, List.length_cons, List.length_nil]; omega
          case measure =>
            have hge : w7.heap.size ≤ gn := by rw [HGN.out]; exact Nat.le_refl _
            have hb9 := (((HB8.out.setCell (p := ⟨gn, 0, none⟩) hge (.int .i64 (M'.kind : Int))).setCell (p := ⟨gn, 1, none⟩) hge (.string (str M'.text))).setCell (p := ⟨gn, 2, none⟩) hge (.int .i64 (M'.line : Int))).setCell (p := ⟨gn, 3, none⟩) hge (.int .i64 (M'.col : Int))
            have e1 := (HR7.out.below hb9).count
            have e2 := HR.out.count
            have e3 := Rd.hd_lt (ms := rest) (by rw [HMM.out, H1.out]; omega)
            rw [← e1, ← e2] at e3
            exact e3
      · have k1 : ((M.kind : Int) == 1) = false := by rw [beq_eq_false_iff_ne]; omega
        have k2 : (M.kind == 1) = false := by rw [beq_eq_false_iff_ne]; omega
        have hst := names_stop (lev := Rd.levelled d) (acc := acc) (ms := rest) (by rw [HMM.out]; exact h1)
        have HLV := Lib.hid (HLO.out acc rest (by rw [HRES.out, ← HNS.out]; exact hst))
        clear hst h1
        by_cases hacc : acc = []
        · have hlv := HLV.out
          rw [if_pos hacc] at hlv
          have HL := Lib.hid hlv
          subst hacc
          clear hlv
          simp only [List.length_nil]
          go_wp2_with fail
          go_ret
          refine ⟨?_, HFR.out⟩
          rw [HL.out]
          exact ⟨rfl, x, HR.out⟩
        · have hlv := HLV.out
          rw [if_neg hacc] at hlv
          have HL := Lib.hid hlv
          obtain ⟨K, hK⟩ : ∃ K, acc.length = K := ⟨_, rfl⟩
          have hk0 : ((K : Int) == 0) = false := by
            rw [beq_eq_false_iff_ne]
            intro e
            exact hacc (List.eq_nil_of_length_eq_zero (by omega))
          have hk1 : (K == 0) = false := by
            rw [beq_eq_false_iff_ne]
            intro e
            exact hacc (List.eq_nil_of_length_eq_zero (by omega))
          have HK := Lib.hid hK
          rw [hK]
          rw [HX.out, HN.out] at c3
          have hown := own_stay HOWN.out HF.out.lev
          rw [HX.out, HN.out] at hown
          have HW := Lib.hid hown
          have hsr : B ≤ wr.heap.size := by omega
          clear hlv hK hacc hown
          go_wp2_with (at_builtin; refine wpList_append_own2 _ rfl (.tmp 59) (.tmp 63) 24 rfl B 50 i1 _ 2 32 Tryz.underlying24 hi1 hy0 hy1 hy2 rfl (by decide) _ _ _ rfl (HW.out.alloc _) ⟨wr.heap.size, 0, none⟩ 1 1 (levCells (⟨a, acc⟩, .slice a5 K s5)) rfl rfl (cells_new _ _ _) (by simp [levCells, Value.oneCell']) (by unfold maxLen; omega) (by omega) (by simp; omega) ?_)
          intro v' w5 hown5 hg5 hn5
          obtain ⟨a7, s7, rfl⟩ := own_form hown5
          have hA5 := (HAT3.out.alloc (.cells #[.int .i64 (a : Int), .slice a5 K s5] 50)).grown hg5 (fun e => own_apart HW.out HAT3.out (by decide) e.symm)
          have hst1 : Stay 9 wr (wr.alloc (.cells #[.int .i64 (a : Int), .slice a5 K s5] 50)) := Stay.below ((Below.refl _ _).alloc (Nat.le_refl _) _)
          have hb1 := (HBO.out.stays HF.out.tok HF.out.pat HF.out.lev HF.out.rul HF.out.str HE.out).alloc (.cells #[.int .i64 (a : Int), .slice a5 K s5] 50)
          have hB5 := hb1.levels_ (l := ⟨a, acc⟩) (vn := .slice a5 K s5) HPL.out (fun p hp => ((HNM.out p hp).stay HF.out.str).stay hst1) (by rw [HX.out, HN.out]; exact HW.out.alloc _) (by rw [HN.out]; exact hown5) ⟨a5, s5, by simp only [HK.out], (by have := HO.out; rw [HK.out] at this; exact (Lie.own this).alloc _)⟩ (by rw [HX.out, HN.out]; exact hg5)
          have hL5 := (HLI3.out.alloc (.cells #[.int .i64 (a : Int), .slice a5 K s5] 50)).stay (Stay.own (HW.out.alloc _) (by decide) hg5)
          have hs9 : Small { d with levels := d.levels ++ [⟨a, acc⟩] } [] (Rd.levelled { d with levels := d.levels ++ [⟨a, acc⟩] }) rest := by
            obtain ⟨q1, q2, q3, q4, q5⟩ := HS.out
            refine ⟨q1, q2, ?_, q4, ?_⟩
            · have := HN.out
              have hn10' := HN10.out
              simp only [List.length_append, List.length_cons, List.length_nil]; omega
            · rw [levelled_snoc, List.length_append]; exact HC.out
          rw [← levelled_snoc d a acc] at hB5
          obtain ⟨hE, hF9⟩ := store_end (i := 3) (v' := .slice a7 (N + 1) s7) hA5 HR.out.len hcap3 hL5 hB5 (by simp [Tl.cells]) hB hs9
          have hF8 := ((HFR.out.alloc hsr (.cells #[.int .i64 (a : Int), .slice a5 K s5] 50)).trans (Fr.own (HW.out.alloc _) hg5 (Nat.le_refl _) (by simp; omega))).trans (hF9 x.m)
          have HEE := Lib.hid hE
          have HFF := Lib.hid hF8
          have q3 := hA5.cell 3
          have qf := hA5.frozen
          simp only [Tl.cells, List.getElem?_toArray, List.getElem?_cons_zero, List.getElem?_cons_succ] at q3
          clear hA5 hst1 hb1 hB5 hL5 hs9 hE hF9 hF8 hown5 hg5 hn5
          go_wp2_with fail
          go_ret
          refine ⟨?_, HFF.out⟩
          rw [HL.out]
          exact ⟨rfl, HEE.out⟩

theorem left_any (B g m : Nat) (d : Rd.Decls) (ms : List Mk) (w : World) (hr : RdAt w B g m d [] (Rd.levelled d) ms) (hne : ms ≠ []) :
    Calls Tryz.prog 133 #[.pointer (some ⟨g, 0, none⟩)] w fun e w' => Told B g m (Rd.level 1 d ms) e w' ∧ Fr B m w w' := by
  have HR := Lib.hid hr
  clear hr
  cases h : Rd.level 1 d ms with
  | bad c r =>
    have H := Lib.hid h
    clear h
    go_enter Tryz.func133, Tryz.ntmps133
    go_wp2_with fail
    refine (level_any 1 (by omega) B g m d ms w HR.out hne).mono ?_
    rw [H.out]
    rintro e w1 ⟨⟨rfl, h1⟩, h2⟩
    go_wp2_with fail
    go_ret
    exact ⟨⟨rfl, h1⟩, h2⟩
  | ok d' r =>
    have H := Lib.hid h
    clear h
    go_enter Tryz.func133, Tryz.ntmps133
    go_wp2_with fail
    refine (level_any 1 (by omega) B g m d ms w HR.out hne).mono ?_
    rw [H.out]
    rintro e w1 ⟨⟨rfl, h1⟩, h2⟩
    go_wp2_with fail
    go_ret
    exact ⟨⟨rfl, h1⟩, h2⟩

theorem right_any (B g m : Nat) (d : Rd.Decls) (ms : List Mk) (w : World) (hr : RdAt w B g m d [] (Rd.levelled d) ms) (hne : ms ≠ []) :
    Calls Tryz.prog 134 #[.pointer (some ⟨g, 0, none⟩)] w fun e w' => Told B g m (Rd.level 2 d ms) e w' ∧ Fr B m w w' := by
  have HR := Lib.hid hr
  clear hr
  cases h : Rd.level 2 d ms with
  | bad c r =>
    have H := Lib.hid h
    clear h
    go_enter Tryz.func134, Tryz.ntmps134
    go_wp2_with fail
    refine (level_any 2 (by omega) B g m d ms w HR.out hne).mono ?_
    rw [H.out]
    rintro e w1 ⟨⟨rfl, h1⟩, h2⟩
    go_wp2_with fail
    go_ret
    exact ⟨⟨rfl, h1⟩, h2⟩
  | ok d' r =>
    have H := Lib.hid h
    clear h
    go_enter Tryz.func134, Tryz.ntmps134
    go_wp2_with fail
    refine (level_any 2 (by omega) B g m d ms w HR.out hne).mono ?_
    rw [H.out]
    rintro e w1 ⟨⟨rfl, h1⟩, h2⟩
    go_wp2_with fail
    go_ret
    exact ⟨⟨rfl, h1⟩, h2⟩

theorem nonassoc_any (B g m : Nat) (d : Rd.Decls) (ms : List Mk) (w : World) (hr : RdAt w B g m d [] (Rd.levelled d) ms) (hne : ms ≠ []) :
    Calls Tryz.prog 135 #[.pointer (some ⟨g, 0, none⟩)] w fun e w' => Told B g m (Rd.level 3 d ms) e w' ∧ Fr B m w w' := by
  have HR := Lib.hid hr
  clear hr
  cases h : Rd.level 3 d ms with
  | bad c r =>
    have H := Lib.hid h
    clear h
    go_enter Tryz.func135, Tryz.ntmps135
    go_wp2_with fail
    refine (level_any 3 (by omega) B g m d ms w HR.out hne).mono ?_
    rw [H.out]
    rintro e w1 ⟨⟨rfl, h1⟩, h2⟩
    go_wp2_with fail
    go_ret
    exact ⟨⟨rfl, h1⟩, h2⟩
  | ok d' r =>
    have H := Lib.hid h
    clear h
    go_enter Tryz.func135, Tryz.ntmps135
    go_wp2_with fail
    refine (level_any 3 (by omega) B g m d ms w HR.out hne).mono ?_
    rw [H.out]
    rintro e w1 ⟨⟨rfl, h1⟩, h2⟩
    go_wp2_with fail
    go_ret
    exact ⟨⟨rfl, h1⟩, h2⟩

end Go.Proofs.YtpgmapjjjpcmfaaGreatDoor

namespace Go.Proofs.YtpgmapjjjpcmfaaGreatDoor
open Go.RowKit
open Lx
set_option linter.unusedVariables false
set_option linter.unusedSimpArgs false
set_option maxRecDepth 100000

/-- What rules' reading tells. -/
def ToldR (B g m : Nat) (d : Rd.Decls) (lev : List Rd.Name) (res : Rd.Res (List Rd.Rule)) (e : Ending) (w' : World) : Prop :=
  match res with
  | .ok rs r => e = .returned (.int .i64 0) ∧ RdAt w' B g m d rs lev r
  | .bad c r => e = .returned (.int .i64 (c : Int)) ∧ ∃ x, Rest w' g x r
def Rd.Res.snoc (acc : List Rd.Rule) : Rd.Res Rd.Rule → Rd.Res (List Rd.Rule)
  | .ok x r => .ok (acc ++ [x]) r
  | .bad c r => .bad c r

theorem Body.rules_ {w w' : World} {B : Nat} {x : Tl} {d : Rd.Decls} {rs : List Rd.Rule} {lev : List Rd.Name} (h : Body w B x d rs lev) {v' vn : Value} {l : Rd.Rule} {ql : List (Rd.Rule × Value)} (hql : ql.map (·.1) = rs) (hn : ∀ p ∈ ql, Nms w p.2 p.1.right) (hown : w.ownsRow B 36 4 x.r rs.length (rulesV ql))
    (ho : w'.ownsRow B 36 4 v' (rs.length + 1) (rulesV ql ++ ruleCells (l, vn))) (hl : Nms w vn l.right) (hg : w.grownBy w' x.r.ownBlock) :
    Body w' B { x with r := v' } d (rs ++ [l]) lev := by
  have hm : HasSet w' x.m lev := h.set_.kept hg (fun e => by
    rcases hown.2 with ⟨e1, _⟩ | ⟨g, cap, cur, e1, _, hgg, _⟩
    · rw [e1] at e; simp [Value.ownBlock] at e
    · rw [e1] at e
      simp [Value.ownBlock] at e
      exact h.set_.ne (g := g) (t := _) (cs := cur) hgg e)
  have hs : Stay 9 w w' := Stay.own hown (by decide) hg
  refine ⟨own_stay h.tok (Stay.own hown (by decide) hg), own_stay h.skp (Stay.own hown (by decide) hg), ?_, h.st, ⟨ql ++ [(l, vn)], by simp [hql], by rw [rulesV_snoc, List.length_append]; exact ho, fun p hp => ?_⟩, hm, h.b, h.base⟩
  · obtain ⟨pl, e, h6, h7⟩ := h.lvs
    exact ⟨pl, e, own_stay h6 (Stay.own hown (by decide) hg), fun p hp => (h7 p hp).stay hs⟩
  · rcases List.mem_append.1 hp with hp | hp
    · exact (hn p hp).stay hs
    · simp at hp; subst hp; exact hl.stay hs

theorem rights_stop {acc : List Rd.Name} {ms : List Mk} (h : ¬ (Rd.hd ms).kind = 1) : Rd.rights ms acc = .ok acc ms := by
  cases ms with
  | nil => rfl
  | cons m r => rw [Rd.hd_cons] at h; unfold Rd.rights; rw [if_neg h]
theorem rights_full {acc : List Rd.Name} {ms : List Mk} (h : (Rd.hd ms).kind = 1) (h2 : acc.length = 8) : Rd.rights ms acc = .bad 3 ms := by
  cases ms with
  | nil => simp [Rd.hd_nil] at h
  | cons m r => rw [Rd.hd_cons] at h; unfold Rd.rights; rw [if_pos h, if_pos h2]
theorem rights_on {acc : List Rd.Name} {ms : List Mk} (h : (Rd.hd ms).kind = 1) (h2 : ¬ acc.length = 8) : Rd.rights ms acc = Rd.rights ms.tail (acc ++ [(Rd.hd ms).text]) := by
  cases ms with
  | nil => simp [Rd.hd_nil] at h
  | cons m r => rw [Rd.hd_cons] at h ⊢; conv => lhs; unfold Rd.rights
                rw [if_pos h, if_neg h2]; rfl
/-- What take tells where an action may stand. -/
theorem take_action (x : Rd.Rule) (hx : x.action = []) (ms : List Mk) : ∃ T b, takeV 9 ms = .tuple #[.string (str T), .bool b] ∧ Rd.action x ms = .ok { x with action := T } (takeR 9 ms) := by
  by_cases h : (Rd.hd ms).kind = 9
  · exact ⟨_, true, takeV_yes h, by unfold Rd.action; rw [if_pos h, takeR_yes h]⟩
  · exact ⟨[], false, takeV_no h, by unfold Rd.action; rw [if_neg h, takeR_no h, ← hx]⟩

def ruleBlock (left : Rd.Name) (a : Option Addr) (n s : Nat) (p c : Rd.Name) : Array Value := #[.string (str left), .slice a n s, .string (str p), .string (str c)]

-- From the action on, behind the world wB, in which the rule's block holds Right and Prec: $1: wB, $2: the marks there, $3: Prec

theorem rest_far' {w w' : World} {g g' : Nat} {t t' : TypeId} {cs cs' : Array Value} (h : At w g t cs) (hk : w.grownBy w' (some g')) (h' : At w g' t' cs') (hne : t ≠ t') : At w' g t cs :=
  h.grown hk (fun e => by
    injection e with e
    subst e
    unfold At at h h'
    rw [h] at h'
    injection h' with h'
    injection h' with _ h'
    exact hne h')

set_option maxHeartbeats 8000000 in
theorem alt_any (left : Rd.Name) (B g m : Nat) (d : Rd.Decls) (rs : List Rd.Rule) (lev : List Rd.Name) (ms : List Mk) (w : World) (hr : RdAt w B g m d rs lev ms) :
    Calls Tryz.prog 138 #[.pointer (some ⟨g, 0, none⟩), .string (str left)] w fun e w' => ToldR B g m d lev (Rd.Res.snoc rs (Rd.alt left rs.length ms)) e w' ∧ Fr B m w w' := by
  obtain ⟨x, hre, hbo, rfl⟩ := hr.ex
  have hB := hr.base
  have HS := Lib.hid hr.small
  obtain ⟨A, cap, hcap, hat, hli⟩ := hre.ex
  have hlt := hat.lt
  obtain ⟨pl, hpl, hown, hnm⟩ := hbo.rls
  obtain ⟨ao, so, hx⟩ := own_form hown
  have HRE := Lib.hid hre
  have HBO := Lib.hid hbo
  have HAT := Lib.hid hat
  have HX := Lib.hid hx
  have HPL := Lib.hid hpl
  have HOWN := Lib.hid hown
  have HNM := Lib.hid hnm
  have c5 := hat.cell 5
  simp only [Tl.cells, List.getElem?_toArray, List.getElem?_cons_zero, List.getElem?_cons_succ] at c5
  rw [hx] at c5
  clear hr hre hbo hat hli hx hpl hown hnm
  by_cases h10 : rs.length = 40
  · have e : Rd.Res.snoc rs (Rd.alt left rs.length ms) = .bad 3 ms := by unfold Rd.alt; rw [if_pos h10]; rfl
    rw [e]
    rw [h10] at c5
    clear e h10
    go_enter Tryz.func138, Tryz.ntmps138
    go_wp2_with fail
    go_ret
    exact ⟨⟨rfl, x, HRE.out⟩, Fr.refl _ _ _⟩
  · obtain ⟨N, hN⟩ : ∃ N, rs.length = N := ⟨_, rfl⟩
    have hn4 : ((N : Int) == 40) = false := by rw [beq_eq_false_iff_ne]; omega
    have hn5 : (N == 40) = false := by rw [beq_eq_false_iff_ne]; omega
    have hn10 : N ≤ 40 := by have := HS.out.2.2.2.1; omega
    have HN40 := Lib.hid (show N ≠ 40 by omega)
    have HLO := Lib.hid (show ∀ l r, Rd.rights ms [] = .ok l r → Rd.Res.snoc rs (Rd.alt left rs.length ms) = (match Rd.prec r with | .bad e r' => .bad e r' | .ok p r' => Rd.Res.snoc rs (Rd.action ⟨left, l, p, []⟩ r')) by
      intro l r h
      unfold Rd.alt
      rw [if_neg h10, h]
      simp only []
      cases Rd.prec r <;> rfl)
    have HLB := Lib.hid (show ∀ r, Rd.rights ms [] = .bad 3 r → Rd.Res.snoc rs (Rd.alt left rs.length ms) = .bad 3 r by
      intro r h
      unfold Rd.alt
      rw [if_neg h10, h]
      rfl)
    have HN := Lib.hid hN
    rw [hN] at c5
    clear hN h10
    obtain ⟨RES, hRES⟩ : ∃ RES, Rd.rights ms [] = RES := ⟨_, rfl⟩
    have HRES := Lib.hid hRES
    clear hRES
    obtain ⟨i0, hi, hz0, hz1, hz2⟩ := info_parts strinfo
    obtain ⟨i1, hi1, hy0, hy1, hy2⟩ := info_parts ruleinfo
    obtain ⟨M, hM⟩ : ∃ M, Rd.hd ms = M := ⟨_, rfl⟩
    have HM0 := Lib.hid hM
    clear hM
    go_enter Tryz.func138, Tryz.ntmps138
    go_wp2_with fail
    have hb0 : Below w.heap.size w (w.alloc (.cells (ruleBlock left none 0 0 [] []) 36)) := (Below.refl _ _).alloc (Nat.le_refl _) _
    refine (here_any g x ms _ (HRE.out.below hb0)).mono ?_
    rw [HM0.out]
    rintro e w2 ⟨rfl, hb2⟩
    have hb3 : Below w.heap.size w w2 := hb0.trans (hb2.mono (by simp))
    have HG2 := Lib.hid (((At.new w 36 (ruleBlock left none 0 0 [] [])).below hb2 (by simp)).alloc (.cells (markCells M) 124))
    have HR2 := Lib.hid ((HRE.out.below hb3).alloc (.cells (markCells M) 124))
    have HF2 := Lib.hid (((Five.refl w).below hb3).alloc (.cells (markCells M) 124))
    have HE2 := Lib.hid ((HBO.out.set_.below hb3).kept (World.grownBy_alloc w2 (.cells (markCells M) 124) none) (by simp))
    have HFR2 := Lib.hid ((Fr.of_below (m := x.m) hb3 (by omega) (B := B)).alloc (by have := hb3.size; omega) (.cells (markCells M) 124))
    have HM2 := Lib.hid (At.new w2 124 (markCells M))
    obtain ⟨gr, hgr⟩ : ∃ gr, w.heap.size = gr := ⟨_, rfl⟩
    have hgrB : B ≤ gr := by omega
    have hgrw : w.heap.size ≤ gr := by omega
    rw [hgr] at HG2 ⊢
    have HGR := Lib.hid hgr
    clear hb0 hb2 hb3 c5 hgr
    unfold Mk.val
    go_wp2_with fail
    go_loopw [6] (fun v6 wr => ∃ (acc : List Rd.Name) (rest : List Mk) (gm : Nat) (a5 : Option Addr) (s5 : Nat), v6 = .pointer (some ⟨gm, 0, none⟩) ∧ At wr gm 124 (markCells (Rd.hd rest)) ∧ At wr gr 36 (ruleBlock left a5 acc.length s5 [] []) ∧ Rest wr g x rest ∧ Five w wr ∧ HasSet wr x.m lev ∧ Fr B x.m w wr ∧
        wr.ownsRow w.heap.size 9 1 (.slice a5 acc.length s5) acc.length (namesV acc) ∧ Rd.rights rest acc = RES ∧ rest.length ≤ ms.length ∧ acc.length ≤ 8) (fun _ wr => restLen wr g)
    case atStart => exact ⟨[], ms, w2.heap.size, none, 0, rfl, by rw [HM0.out]; exact HM2.out, HG2.out, HR2.out, HF2.out, HE2.out, HFR2.out, World.ownsRow_nil _ _ _ _, HRES.out, Nat.le_refl _, by simp⟩
    case round =>
      obtain ⟨acc, rest, gm, a5, s5, rfl, hm, hg, hr, hf, he, hfr, hown, hnames, hle, h8⟩ := hrel
      have HM := Lib.hid hm
      have HG := Lib.hid hg
      have HR := Lib.hid hr
      have HF := Lib.hid hf
      have HE := Lib.hid he
      have HFR := Lib.hid hfr
      have HO := Lib.hid hown
      have HNS := Lib.hid hnames
      have HLE := Lib.hid hle
      obtain ⟨M, hM⟩ : ∃ M, Rd.hd rest = M := ⟨_, rfl⟩
      have HMM := Lib.hid hM
      rw [hM] at hm
      have m0 := hm.cell 0
      have m1 := hm.cell 1
      have m2 := hm.cell 2
      have m3 := hm.cell 3
      simp only [markCells, List.getElem?_toArray, List.getElem?_cons_zero, List.getElem?_cons_succ] at m0 m1 m2 m3
      have r1 := hg.cell 1
      have rf := hg.frozen
      simp only [ruleBlock, List.getElem?_toArray, List.getElem?_cons_zero, List.getElem?_cons_succ] at r1
      have hml := hm.lt
      have hgl := hg.lt
      have hsr : w.heap.size ≤ wr.heap.size := hfr.below.size
      clear hm hg hr hf he hfr hown hnames hle HM2 HR2 HF2 HE2 HFR2 HG2
      by_cases h1 : M.kind = 1
      · have k1 : ((M.kind : Int) == 1) = true := by rw [beq_iff_eq]; omega
        have k2 : (M.kind == 1) = true := by rw [beq_iff_eq]; omega
        have H1 := Lib.hid h1
        clear h1
        by_cases hacc : acc.length = 8
        · have HAC := Lib.hid hacc
          rw [hacc] at r1
          clear hacc
          go_wp2_with fail
          go_ret
          refine ⟨?_, HFR.out⟩
          rw [HLB.out rest (by rw [HRES.out, ← HNS.out]; exact rights_full (by rw [HMM.out]; exact H1.out) HAC.out)]
          exact ⟨rfl, x, HR.out⟩
        · obtain ⟨K, hK⟩ : ∃ K, acc.length = K := ⟨_, rfl⟩
          have a1 : ((K : Int) == 8) = false := by rw [beq_eq_false_iff_ne]; omega
          have a2 : (K == 8) = false := by rw [beq_eq_false_iff_ne]; omega
          have HK := Lib.hid hK
          have hon := rights_on (acc := acc) (ms := rest) (by rw [HMM.out]; exact H1.out) hacc
          rw [HMM.out] at hon
          have HON := Lib.hid hon
          have hrne : rest ≠ [] := ne_of_kind (k := 1) (by rw [HMM.out]; exact H1.out) (by omega)
          have hown := HO.out
          rw [hK] at hown r1 h8
          have HW := Lib.hid hown
          have H8 := Lib.hid (show K ≠ 8 by omega)
          have r1a : ∀ o, (wr.alloc o).cell? ⟨gr, 1, none⟩ = some (.slice a5 K s5) := fun o => by
            have := (HG.out.alloc o).cell 1
            simp only [ruleBlock, List.getElem?_toArray, List.getElem?_cons_zero, List.getElem?_cons_succ] at this
            rw [this, hK]
          clear hK hacc hon hown
          go_wp2_with (at_builtin; refine wpList_append_own2 _ rfl (.tmp 30) (.tmp 33) 34 rfl w.heap.size 9 i0 _ 1 16 Tryz.underlying34 hi hz0 hz1 hz2 rfl (by decide) _ _ _ rfl (HW.out.alloc _) ⟨wr.heap.size, 0, none⟩ 1 1 [.string (str M.text)] rfl rfl (cells_new _ _ _) (by simp [Value.oneCell']) (by unfold maxLen; omega) (by omega) (by simp; omega) ?_)
          intro v' w6 hown6 hg6 hn6
          obtain ⟨a6, s6, rfl⟩ := own_form hown6
          have hg6' : wr.grownBy w6 (Value.slice a5 K s5).ownBlock := grown_trans (World.grownBy_alloc _ _ _) hg6
          have hnew : ∀ k, (Value.slice a5 K s5).ownBlock = some k → w.heap.size ≤ k := fun k hk => (own_lt HW.out k hk).1
          have HM6 := Lib.hid (HM.out.grown hg6' (fun e => own_apart HW.out HM.out (by decide) e.symm))
          have HG6 := Lib.hid (HG.out.grown hg6' (fun e => own_apart HW.out HG.out (by decide) e.symm))
          have HR6 := Lib.hid (HR.out.stay (Stay.own HW.out (by decide) hg6') (Stay.own HW.out (by decide) hg6'))
          have HF6 := Lib.hid (HF.out.new hg6' hnew)
          have HE6 := Lib.hid (HE.out.kept hg6' (fun e => by
            rcases HW.out.2 with ⟨e1, _⟩ | ⟨g', cap', cur, e1, _, hgg, _⟩
            · rw [e1] at e; simp [Value.ownBlock] at e
            · rw [e1] at e
              simp [Value.ownBlock] at e
              exact HE.out.ne (g := g') (t := _) (cs := cur) hgg e))
          have HFR6 := Lib.hid (HFR.out.trans (Fr.own HW.out hg6' (by omega) (by omega)))
          have HO6 := Lib.hid hown6
          have r1b := HG6.out.cell 1
          have rfb := HG6.out.frozen
          simp only [ruleBlock, List.getElem?_toArray, List.getElem?_cons_zero, List.getElem?_cons_succ] at r1b
          rw [HK.out] at r1b
          clear hown6 hg6 hg6' hn6 hnew r1 r1a rf m0 m1 m2 m3
          go_wp2_with fail
          have hgs : w6.grownBy (w6.setCell ⟨gr, 1, none⟩ (.slice a6 (K + 1) s6)) (some gr) := grown_set (grown_refl _ _) 1 _
          have hGD : At (w6.setCell ⟨gr, 1, none⟩ (.slice a6 (K + 1) s6)) gr 36 (ruleBlock left a6 (K + 1) s6 [] []) := by
            have := HG6.out.set 1 (.slice a6 (K + 1) s6)
            simpa [ruleBlock] using this
          have HG7 := Lib.hid hGD
          have HR7 := Lib.hid (HR6.out.stay (Stay.far HG6.out (by decide) hgs) (Stay.far HG6.out (by decide) hgs))
          have HM7 := Lib.hid (rest_far' HM6.out hgs HG6.out (by decide))
          have HF7 := Lib.hid (HF6.out.new hgs (fun k e => by injection e with e; omega))
          have HE7 := Lib.hid (HE6.out.kept hgs (by simpa using HE6.out.ne HG6.out))
          have HFR7 := Lib.hid (HFR6.out.trans (Fr.at_ HG6.out hgs (by omega)))
          have HO7 := Lib.hid (own_stay HO6.out (Stay.far HG6.out (by decide) hgs))
          obtain ⟨w7, hw7⟩ : ∃ w7, w6.setCell ⟨gr, 1, none⟩ (.slice a6 (K + 1) s6) = w7 := ⟨_, rfl⟩
          rw [hw7] at HG7 HR7 HM7 HF7 HE7 HFR7 HO7 ⊢
          clear hw7 hgs hGD r1b rfb
          refine (next_any g x rest _ HR7.out hrne).mono ?_
          rintro e w8 ⟨rfl, hr8, hg8⟩
          obtain ⟨cs8, hat8⟩ := HR7.out.at_
          have HR8 := Lib.hid hr8
          have HM8 := Lib.hid (rest_far' HM7.out hg8 hat8 (by decide))
          have HG8 := Lib.hid (rest_far' HG7.out hg8 hat8 (by decide))
          have HF8 := Lib.hid (HF7.out.far hat8 hg8)
          have HE8 := Lib.hid (HE7.out.kept hg8 (by simpa using HE7.out.ne hat8))
          have HFR8 := Lib.hid (HFR7.out.trans (Fr.at_ hat8 hg8 hB))
          have HO8 := Lib.hid (own_stay HO7.out (Stay.far hat8 (by decide) hg8))
          have n0 := HM8.out.cell 0
          have n1 := HM8.out.cell 1
          have n2 := HM8.out.cell 2
          have n3 := HM8.out.cell 3
          rw [HMM.out] at n0 n1 n2 n3
          simp only [markCells, List.getElem?_toArray, List.getElem?_cons_zero, List.getElem?_cons_succ] at n0 n1 n2 n3
          have hs8 : w.heap.size ≤ w8.heap.size := HFR8.out.below.size
          clear hr8 hg8 hat8
          go_wp2_with fail
          refine (here_any g x rest.tail _ (HR8.out.alloc _)).mono ?_
          obtain ⟨M', hM'⟩ : ∃ M', Rd.hd rest.tail = M' := ⟨_, rfl⟩
          rw [hM']
          rintro e w9 ⟨rfl, hbw9⟩
          have HNw9 := Lib.hid ((At.new w8 124 (markCells M)).below hbw9 (by simp))
          have hbw9' : Below w8.heap.size w8 w9 := ((Below.refl _ _).alloc (Nat.le_refl _) _).trans (hbw9.mono (by simp))
          have q0 := HNw9.out.cell 0
          have q1 := HNw9.out.cell 1
          have q2 := HNw9.out.cell 2
          have q3 := HNw9.out.cell 3
          have qf := HNw9.out.frozen
          simp only [markCells, List.getElem?_toArray, List.getElem?_cons_zero, List.getElem?_cons_succ] at q0 q1 q2 q3
          have HBw9 := Lib.hid hbw9'
          have HMM' := Lib.hid hM'
          obtain ⟨gn, hgn⟩ : ∃ gn, w8.heap.size = gn := ⟨_, rfl⟩
          rw [hgn] at HNw9 q0 q1 q2 q3 qf ⊢
          have HGN := Lib.hid hgn
          clear hbw9 hbw9' hM' n0 n1 n2 n3 hgn
          unfold Mk.val
          go_wp2_with fail
          go_roundw
          case rel =>
            have hge : w8.heap.size ≤ gn := by rw [HGN.out]; exact Nat.le_refl _
            have hb9 := (((HBw9.out.setCell (p := ⟨gn, 0, none⟩) hge (.int .i64 (M'.kind : Int))).setCell (p := ⟨gn, 1, none⟩) hge (.string (str M'.text))).setCell (p := ⟨gn, 2, none⟩) hge (.int .i64 (M'.line : Int))).setCell (p := ⟨gn, 3, none⟩) hge (.int .i64 (M'.col : Int))
            refine ⟨acc ++ [M.text], rest.tail, gn, a6, s6, rfl, ?_, ?_, HR8.out.below hb9, HF8.out.below hb9, HE8.out.below hb9, HFR8.out.trans (Fr.of_below hb9 (by omega)), ?_, ?_, ?_, ?_⟩
            · rw [HMM'.out]; exact HNw9.out.four_ _ _ _ _
            · rw [List.length_append, HK.out]; exact HG8.out.below hb9 HG8.out.lt
            · rw [namesV_snoc, List.length_append, HK.out]; exact own_below HO8.out hb9 (fun k hk => (own_lt HO8.out k hk).2)
            · rw [← HNS.out, HON.out]
            · have := HLE.out
              simp only [List.length_tail]; omega
            · have := HK.out
              have := H8.out
              simp only [List.length_append, List.length_cons, List.length_nil]; omega
          case measure =>
            have hge : w8.heap.size ≤ gn := by rw [HGN.out]; exact Nat.le_refl _
            have hb9 := (((HBw9.out.setCell (p := ⟨gn, 0, none⟩) hge (.int .i64 (M'.kind : Int))).setCell (p := ⟨gn, 1, none⟩) hge (.string (str M'.text))).setCell (p := ⟨gn, 2, none⟩) hge (.int .i64 (M'.line : Int))).setCell (p := ⟨gn, 3, none⟩) hge (.int .i64 (M'.col : Int))
            have e1 := (HR8.out.below hb9).count
            have e2 := HR.out.count
            have e3 := Rd.hd_lt (ms := rest) (by rw [HMM.out, H1.out]; omega)
            rw [← e1, ← e2] at e3
            exact e3
      · have k1 : ((M.kind : Int) == 1) = false := by rw [beq_eq_false_iff_ne]; omega
        have k2 : (M.kind == 1) = false := by rw [beq_eq_false_iff_ne]; omega
        have HK1 := Lib.hid h1
        clear h1
        cases hwd : Rd.isWord [112, 114, 101, 99] M with
        | false =>
          have HPR := Lib.hid (show Rd.prec rest = .ok [] rest by unfold Rd.prec; rw [HMM.out, if_neg (by simp [hwd])])
          have HWD := Lib.hid hwd
          clear hwd
          go_wp2_with fail
          refine (word_is [112, 114, 101, 99] g x rest _ HR.out).mono ?_
          rw [HMM.out, HWD.out]
          rintro e wB ⟨rfl, hbB⟩
          have HRwB := Lib.hid (HR.out.below hbB)
          have HGwB := Lib.hid (HG.out.below hbB hgl)
          have HFwB := Lib.hid (HF.out.below hbB)
          have HEwB := Lib.hid (HE.out.below hbB)
          have HFRwB := Lib.hid (HFR.out.trans (Fr.of_below hbB (by omega)))
          have HOwB := Lib.hid (own_below HO.out hbB (fun k hk => (own_lt HO.out k hk).2))
          have HLEwB := Lib.hid HLE.out
          clear hbB m0 m1 m2 m3 r1 rf
          go_wp2_with fail
          obtain ⟨T, bb, hV, hAc⟩ := take_action ⟨left, acc, [], []⟩ rfl rest
          refine (take_any 9 (by omega) g x rest _ HRwB.out).mono ?_
          rw [hV]
          rintro e wC ⟨rfl, hrC, hgC⟩
          have HAC := Lib.hid hAc
          obtain ⟨csC, hatC⟩ := HRwB.out.at_
          have HRC := Lib.hid hrC
          have HGC := Lib.hid (rest_far' HGwB.out hgC hatC (by decide))
          have HFC := Lib.hid (HFwB.out.far hatC hgC)
          have HEC := Lib.hid (HEwB.out.kept hgC (by simpa using HEwB.out.ne hatC))
          have HFRC := Lib.hid (HFRwB.out.trans (Fr.at_ hatC hgC hB))
          have HOC := Lib.hid (own_stay HOwB.out (Stay.far hatC (by decide) hgC))
          have r3 := HGC.out.cell 3
          have rf := HGC.out.frozen
          simp only [ruleBlock, List.getElem?_toArray, List.getElem?_cons_zero, List.getElem?_cons_succ] at r3
          clear hV hAc hrC hgC hatC
          go_wp2_with fail
          have hgs : wC.grownBy (wC.setCell ⟨gr, 3, none⟩ (.string (str T))) (some gr) := grown_set (grown_refl _ _) 3 _
          have hGD : At (wC.setCell ⟨gr, 3, none⟩ (.string (str T))) gr 36 (ruleBlock left a5 acc.length s5 [] T) := by
            have := HGC.out.set 3 (.string (str T))
            simpa [ruleBlock] using this
          have HGD := Lib.hid hGD
          have HRD := Lib.hid (HRC.out.stay (Stay.far HGC.out (by decide) hgs) (Stay.far HGC.out (by decide) hgs))
          have HFD := Lib.hid (HFC.out.new hgs (fun k e => by injection e with e; omega))
          have HED := Lib.hid (HEC.out.kept hgs (by simpa using HEC.out.ne HGC.out))
          have HFRD := Lib.hid (HFRC.out.trans (Fr.at_ HGC.out hgs (by omega)))
          have HOD := Lib.hid (own_stay HOC.out (Stay.far HGC.out (by decide) hgs))
          obtain ⟨wD, hwD⟩ : ∃ wD, wC.setCell ⟨gr, 3, none⟩ (.string (str T)) = wD := ⟨_, rfl⟩
          rw [hwD] at HGD HRD HFD HED HFRD HOD ⊢
          clear hwD hgs hGD r3 rf
          obtain ⟨AD, capD, hcapD, hatD, hliD⟩ := HRD.out.ex
          have HATD := Lib.hid hatD
          have HLID := Lib.hid hliD
          have hown := own_stay HOWN.out HFD.out.rul
          rw [HX.out, HN.out] at hown
          have HW := Lib.hid hown
          have c0 := hatD.cell 0
          have c1 := hatD.cell 1
          have c2 := hatD.cell 2
          have c3 := hatD.cell 3
          have c4 := hatD.cell 4
          have c5 := hatD.cell 5
          have c6 := hatD.cell 6
          have c7 := hatD.cell 7
          have cf := hatD.frozen
          simp only [Tl.cells, List.getElem?_toArray, List.getElem?_cons_zero, List.getElem?_cons_succ] at c0 c1 c2 c3 c4 c5 c6 c7
          rw [HX.out, HN.out] at c5
          have c5a : ∀ o, (wD.alloc o).cell? ⟨g, 5, none⟩ = some (.slice ao N so) := fun o => by
            have := (hatD.alloc o).cell 5
            simp only [Tl.cells, List.getElem?_toArray, List.getElem?_cons_zero, List.getElem?_cons_succ] at this
            rw [this, HX.out, HN.out]
          have r0 := HGD.out.cell 0
          have r1 := HGD.out.cell 1
          have r2 := HGD.out.cell 2
          have r3 := HGD.out.cell 3
          simp only [ruleBlock, List.getElem?_toArray, List.getElem?_cons_zero, List.getElem?_cons_succ] at r0 r1 r2 r3
          have hsD : B ≤ wD.heap.size := by have := HATD.out.lt; omega
          obtain ⟨KK, hKK⟩ : ∃ KK, acc.length = KK := ⟨_, rfl⟩
          rw [hKK] at r1
          have HKK := Lib.hid hKK
          clear hown hatD hliD hKK
          go_region_law (refine step_append_own2 rfl _ _ 25 rfl B 36 i1 _ 4 72 Tryz.underlying25 hi1 hy0 hy1 hy2 rfl (by decide) _ _ _ rfl (HW.out.drew.alloc _) ⟨wD.heap.size, 0, none⟩ 1 1 (ruleCells (⟨left, acc, [], T⟩, .slice a5 KK s5)) rfl rfl (cells_new _ _ _) (by simp [ruleCells, Value.oneCell']) (by unfold maxLen; omega) (by omega) (by simp; omega) ?_; intro v' w8 hown8 hg8 hn8; obtain ⟨a8, s8, rfl⟩ := own_form hown8; have hA8 := At.grown (HATD.out.drew.alloc _) hg8 (fun e => own_apart HW.out HATD.out (by decide) e.symm); have q5 := hA8.cell 5; have qf := hA8.frozen; simp only [Tl.cells, List.getElem?_toArray, List.getElem?_cons_zero, List.getElem?_cons_succ] at q5)
          all_goals
            have hg9 : (wD.alloc (.cells #[.string (str left), .slice a5 KK s5, .string (str []), .string (str T)] 36)).drew.grownBy w8 (Value.slice ao N so).ownBlock := hg8
            have ho7 := HW.out.alloc (.cells #[.string (str left), .slice a5 KK s5, .string (str []), .string (str T)] 36)
            have hb1 : Below wD.heap.size wD (wD.alloc (.cells #[.string (str left), .slice a5 KK s5, .string (str []), .string (str T)] 36)).drew := below_drew ((Below.refl _ _).alloc (Nat.le_refl _) _)
            have hF8 := (HFRD.out.trans (Fr.of_below hb1 hsD)).trans (Fr.own (own_drewN ho7 1) hg9 (Nat.le_refl _) (by simp; omega))
            have hbo := (HBO.out.stays HFD.out.tok HFD.out.pat HFD.out.lev HFD.out.rul HFD.out.str HED.out).below hb1
            have hB8 := hbo.rules_ (l := ⟨left, acc, [], T⟩) (vn := .slice a5 KK s5) HPL.out (fun p hp => ((HNM.out p hp).stay HFD.out.str).stay (Stay.below hb1)) (by rw [HX.out, HN.out]; exact own_drewN ho7 1) (by rw [HN.out]; exact hown8) ⟨a5, s5, by simp only [HKK.out], (by have := HOD.out; rw [HKK.out] at this; exact (Lie.own this).below hb1)⟩ (by rw [HX.out, HN.out]; exact hg9)
            have hL8 := (HLID.out.below hb1).stay (Stay.own (own_drewN ho7 1) (by decide) hg9)
            have hs9 : Small d (rs ++ [⟨left, acc, [], T⟩]) lev (takeR 9 rest) := by
              obtain ⟨q1, q2, q3, q4, q5⟩ := HS.out
              have hl2 := HLEwB.out
              have hl3 : (takeR 9 rest).length ≤ (rest).length := by unfold takeR; split <;> simp
              refine ⟨q1, q2, q3, ?_, by omega⟩
              have := HN.out
              have := HN40.out
              simp only [List.length_append, List.length_cons, List.length_nil]; omega
            obtain ⟨hE, hF⟩ := store_end (i := 5) (v' := .slice a8 (N + 1) s8) hA8 HRD.out.len hcapD hL8 hB8 (by simp [Tl.cells]) hB hs9
            have HE9 := Lib.hid hE
            have HF9 := Lib.hid (hF8.trans (hF _))
            clear hg9 ho7 hF8 hB8 hL8 hE hF hg8 hn8 hown8 hA8 hbo hb1 hs9
            go_wp2_with fail
            go_ret
            refine ⟨?_, HF9.out⟩
            rw [HLO.out acc rest (by rw [HRES.out, ← HNS.out]; exact rights_stop (by rw [HMM.out]; exact HK1.out)), HPR.out]
            simp only []
            rw [HAC.out]
            exact ⟨rfl, HE9.out⟩
        | true =>
          have hrne : rest ≠ [] := by
            rintro rfl
            rw [Rd.hd_nil] at hM
            subst hM
            simp [Rd.isWord] at hwd
          have HWD := Lib.hid hwd
          by_cases hp1 : (Rd.hd rest.tail).kind = 1
          · have HPR := Lib.hid (show Rd.prec rest = .ok (Rd.hd rest.tail).text rest.tail.tail by unfold Rd.prec; rw [HMM.out, if_pos hwd, if_pos hp1])
            have V1 := Lib.hid (takeV_yes hp1)
            have R1 := Lib.hid (takeR_yes hp1)
            clear hwd hp1
            generalize (Rd.hd rest.tail).text = PT at HPR V1
            go_wp2_with fail
            refine (word_is [112, 114, 101, 99] g x rest _ HR.out).mono ?_
            rw [HMM.out, HWD.out]
            rintro e wA ⟨rfl, hbA⟩
            have HRA := Lib.hid (HR.out.below hbA)
            have HGA := Lib.hid (HG.out.below hbA hgl)
            have HFA := Lib.hid (HF.out.below hbA)
            have HEA := Lib.hid (HE.out.below hbA)
            have HFRA := Lib.hid (HFR.out.trans (Fr.of_below hbA (by omega)))
            have HOA := Lib.hid (own_below HO.out hbA (fun k hk => (own_lt HO.out k hk).2))
            clear hbA m0 m1 m2 m3 r1 rf
            go_wp2_with fail
            refine (next_any g x rest _ HRA.out hrne).mono ?_
            rintro e wA2 ⟨rfl, hrA2, hgA2⟩
            have HRA2 := Lib.hid hrA2
            have HGA2 := Lib.hid hgA2
            clear hrA2 hgA2
            go_wp2_with fail
            refine (take_any 1 (by omega) g x rest.tail _ HRA2.out).mono ?_
            rw [V1.out, R1.out]
            rintro e wA3 ⟨rfl, hrA3, hgA3⟩
            have hgg := grown_trans HGA2.out hgA3
            obtain ⟨csA, hatA⟩ := HRA.out.at_
            have HRA3 := Lib.hid hrA3
            have HGA3 := Lib.hid (rest_far' HGA.out hgg hatA (by decide))
            have HFA3 := Lib.hid (HFA.out.far hatA hgg)
            have HEA3 := Lib.hid (HEA.out.kept hgg (by simpa using HEA.out.ne hatA))
            have HFRA3 := Lib.hid (HFRA.out.trans (Fr.at_ hatA hgg hB))
            have HOA3 := Lib.hid (own_stay HOA.out (Stay.far hatA (by decide) hgg))
            have r2 := HGA3.out.cell 2
            have rf := HGA3.out.frozen
            simp only [ruleBlock, List.getElem?_toArray, List.getElem?_cons_zero, List.getElem?_cons_succ] at r2
            clear hrA3 hgA3 hgg hatA
            go_wp2_with fail
            have hgs : wA3.grownBy (wA3.setCell ⟨gr, 2, none⟩ (.string (str PT))) (some gr) := grown_set (grown_refl _ _) 2 _
            have hGD : At (wA3.setCell ⟨gr, 2, none⟩ (.string (str PT))) gr 36 (ruleBlock left a5 acc.length s5 PT []) := by
              have := HGA3.out.set 2 (.string (str PT))
              simpa [ruleBlock] using this
            have HGwB := Lib.hid hGD
            have HRwB := Lib.hid (HRA3.out.stay (Stay.far HGA3.out (by decide) hgs) (Stay.far HGA3.out (by decide) hgs))
            have HFwB := Lib.hid (HFA3.out.new hgs (fun k e => by injection e with e; omega))
            have HEwB := Lib.hid (HEA3.out.kept hgs (by simpa using HEA3.out.ne HGA3.out))
            have HFRwB := Lib.hid (HFRA3.out.trans (Fr.at_ HGA3.out hgs (by omega)))
            have HOwB := Lib.hid (own_stay HOA3.out (Stay.far HGA3.out (by decide) hgs))
            have HLEwB := Lib.hid (show rest.tail.tail.length ≤ ms.length by have := HLE.out; simp; omega)
            obtain ⟨wB, hwB⟩ : ∃ wB, wA3.setCell ⟨gr, 2, none⟩ (.string (str PT)) = wB := ⟨_, rfl⟩
            rw [hwB] at HGwB HRwB HFwB HEwB HFRwB HOwB ⊢
            clear hwB hgs hGD r2 rf
            obtain ⟨T, bb, hV, hAc⟩ := take_action ⟨left, acc, PT, []⟩ rfl rest.tail.tail
            refine (take_any 9 (by omega) g x rest.tail.tail _ HRwB.out).mono ?_
            rw [hV]
            rintro e wC ⟨rfl, hrC, hgC⟩
            have HAC := Lib.hid hAc
            obtain ⟨csC, hatC⟩ := HRwB.out.at_
            have HRC := Lib.hid hrC
            have HGC := Lib.hid (rest_far' HGwB.out hgC hatC (by decide))
            have HFC := Lib.hid (HFwB.out.far hatC hgC)
            have HEC := Lib.hid (HEwB.out.kept hgC (by simpa using HEwB.out.ne hatC))
            have HFRC := Lib.hid (HFRwB.out.trans (Fr.at_ hatC hgC hB))
            have HOC := Lib.hid (own_stay HOwB.out (Stay.far hatC (by decide) hgC))
            have r3 := HGC.out.cell 3
            have rf := HGC.out.frozen
            simp only [ruleBlock, List.getElem?_toArray, List.getElem?_cons_zero, List.getElem?_cons_succ] at r3
            clear hV hAc hrC hgC hatC
            go_wp2_with fail
            have hgs : wC.grownBy (wC.setCell ⟨gr, 3, none⟩ (.string (str T))) (some gr) := grown_set (grown_refl _ _) 3 _
            have hGD : At (wC.setCell ⟨gr, 3, none⟩ (.string (str T))) gr 36 (ruleBlock left a5 acc.length s5 PT T) := by
              have := HGC.out.set 3 (.string (str T))
              simpa [ruleBlock] using this
            have HGD := Lib.hid hGD
            have HRD := Lib.hid (HRC.out.stay (Stay.far HGC.out (by decide) hgs) (Stay.far HGC.out (by decide) hgs))
            have HFD := Lib.hid (HFC.out.new hgs (fun k e => by injection e with e; omega))
            have HED := Lib.hid (HEC.out.kept hgs (by simpa using HEC.out.ne HGC.out))
            have HFRD := Lib.hid (HFRC.out.trans (Fr.at_ HGC.out hgs (by omega)))
            have HOD := Lib.hid (own_stay HOC.out (Stay.far HGC.out (by decide) hgs))
            obtain ⟨wD, hwD⟩ : ∃ wD, wC.setCell ⟨gr, 3, none⟩ (.string (str T)) = wD := ⟨_, rfl⟩
            rw [hwD] at HGD HRD HFD HED HFRD HOD ⊢
            clear hwD hgs hGD r3 rf
            obtain ⟨AD, capD, hcapD, hatD, hliD⟩ := HRD.out.ex
            have HATD := Lib.hid hatD
            have HLID := Lib.hid hliD
            have hown := own_stay HOWN.out HFD.out.rul
            rw [HX.out, HN.out] at hown
            have HW := Lib.hid hown
            have c0 := hatD.cell 0
            have c1 := hatD.cell 1
            have c2 := hatD.cell 2
            have c3 := hatD.cell 3
            have c4 := hatD.cell 4
            have c5 := hatD.cell 5
            have c6 := hatD.cell 6
            have c7 := hatD.cell 7
            have cf := hatD.frozen
            simp only [Tl.cells, List.getElem?_toArray, List.getElem?_cons_zero, List.getElem?_cons_succ] at c0 c1 c2 c3 c4 c5 c6 c7
            rw [HX.out, HN.out] at c5
            have c5a : ∀ o, (wD.alloc o).cell? ⟨g, 5, none⟩ = some (.slice ao N so) := fun o => by
              have := (hatD.alloc o).cell 5
              simp only [Tl.cells, List.getElem?_toArray, List.getElem?_cons_zero, List.getElem?_cons_succ] at this
              rw [this, HX.out, HN.out]
            have r0 := HGD.out.cell 0
            have r1 := HGD.out.cell 1
            have r2 := HGD.out.cell 2
            have r3 := HGD.out.cell 3
            simp only [ruleBlock, List.getElem?_toArray, List.getElem?_cons_zero, List.getElem?_cons_succ] at r0 r1 r2 r3
            have hsD : B ≤ wD.heap.size := by have := HATD.out.lt; omega
            obtain ⟨KK, hKK⟩ : ∃ KK, acc.length = KK := ⟨_, rfl⟩
            rw [hKK] at r1
            have HKK := Lib.hid hKK
            clear hown hatD hliD hKK
            go_region_law (refine step_append_own2 rfl _ _ 25 rfl B 36 i1 _ 4 72 Tryz.underlying25 hi1 hy0 hy1 hy2 rfl (by decide) _ _ _ rfl (HW.out.drew.alloc _) ⟨wD.heap.size, 0, none⟩ 1 1 (ruleCells (⟨left, acc, PT, T⟩, .slice a5 KK s5)) rfl rfl (cells_new _ _ _) (by simp [ruleCells, Value.oneCell']) (by unfold maxLen; omega) (by omega) (by simp; omega) ?_; intro v' w8 hown8 hg8 hn8; obtain ⟨a8, s8, rfl⟩ := own_form hown8; have hA8 := At.grown (HATD.out.drew.alloc _) hg8 (fun e => own_apart HW.out HATD.out (by decide) e.symm); have q5 := hA8.cell 5; have qf := hA8.frozen; simp only [Tl.cells, List.getElem?_toArray, List.getElem?_cons_zero, List.getElem?_cons_succ] at q5)
            all_goals
              have hg9 : (wD.alloc (.cells #[.string (str left), .slice a5 KK s5, .string (str PT), .string (str T)] 36)).drew.grownBy w8 (Value.slice ao N so).ownBlock := hg8
              have ho7 := HW.out.alloc (.cells #[.string (str left), .slice a5 KK s5, .string (str PT), .string (str T)] 36)
              have hb1 : Below wD.heap.size wD (wD.alloc (.cells #[.string (str left), .slice a5 KK s5, .string (str PT), .string (str T)] 36)).drew := below_drew ((Below.refl _ _).alloc (Nat.le_refl _) _)
              have hF8 := (HFRD.out.trans (Fr.of_below hb1 hsD)).trans (Fr.own (own_drewN ho7 1) hg9 (Nat.le_refl _) (by simp; omega))
              have hbo := (HBO.out.stays HFD.out.tok HFD.out.pat HFD.out.lev HFD.out.rul HFD.out.str HED.out).below hb1
              have hB8 := hbo.rules_ (l := ⟨left, acc, PT, T⟩) (vn := .slice a5 KK s5) HPL.out (fun p hp => ((HNM.out p hp).stay HFD.out.str).stay (Stay.below hb1)) (by rw [HX.out, HN.out]; exact own_drewN ho7 1) (by rw [HN.out]; exact hown8) ⟨a5, s5, by simp only [HKK.out], (by have := HOD.out; rw [HKK.out] at this; exact (Lie.own this).below hb1)⟩ (by rw [HX.out, HN.out]; exact hg9)
              have hL8 := (HLID.out.below hb1).stay (Stay.own (own_drewN ho7 1) (by decide) hg9)
              have hs9 : Small d (rs ++ [⟨left, acc, PT, T⟩]) lev (takeR 9 rest.tail.tail) := by
                obtain ⟨q1, q2, q3, q4, q5⟩ := HS.out
                have hl2 := HLEwB.out
                have hl3 : (takeR 9 rest.tail.tail).length ≤ (rest.tail.tail).length := by unfold takeR; split <;> simp
                refine ⟨q1, q2, q3, ?_, by omega⟩
                have := HN.out
                have := HN40.out
                simp only [List.length_append, List.length_cons, List.length_nil]; omega
              obtain ⟨hE, hF⟩ := store_end (i := 5) (v' := .slice a8 (N + 1) s8) hA8 HRD.out.len hcapD hL8 hB8 (by simp [Tl.cells]) hB hs9
              have HE9 := Lib.hid hE
              have HF9 := Lib.hid (hF8.trans (hF _))
              clear hg9 ho7 hF8 hB8 hL8 hE hF hg8 hn8 hown8 hA8 hbo hb1 hs9
              go_wp2_with fail
              go_ret
              refine ⟨?_, HF9.out⟩
              rw [HLO.out acc rest (by rw [HRES.out, ← HNS.out]; exact rights_stop (by rw [HMM.out]; exact HK1.out)), HPR.out]
              simp only []
              rw [HAC.out]
              exact ⟨rfl, HE9.out⟩
          · have HPR := Lib.hid (show Rd.prec rest = .bad 14 rest.tail by unfold Rd.prec; rw [HMM.out, if_pos hwd, if_neg hp1])
            have V1 := Lib.hid (takeV_no hp1)
            have R1 := Lib.hid (takeR_no hp1)
            clear hwd hp1
            go_wp2_with fail
            refine (word_is [112, 114, 101, 99] g x rest _ HR.out).mono ?_
            rw [HMM.out, HWD.out]
            rintro e wA ⟨rfl, hbA⟩
            have HRA := Lib.hid (HR.out.below hbA)
            have HFRA := Lib.hid (HFR.out.trans (Fr.of_below hbA (by omega)))
            clear hbA m0 m1 m2 m3 r1 rf
            go_wp2_with fail
            refine (next_any g x rest _ HRA.out hrne).mono ?_
            rintro e wA2 ⟨rfl, hrA2, hgA2⟩
            have HRA2 := Lib.hid hrA2
            have HGA2 := Lib.hid hgA2
            clear hrA2 hgA2
            go_wp2_with fail
            refine (take_any 1 (by omega) g x rest.tail _ HRA2.out).mono ?_
            rw [V1.out, R1.out]
            rintro e wA3 ⟨rfl, hrA3, hgA3⟩
            obtain ⟨csA, hatA⟩ := HRA.out.at_
            have HRA3 := Lib.hid hrA3
            have HFRA3 := Lib.hid (HFRA.out.trans (Fr.at_ hatA (grown_trans HGA2.out hgA3) hB))
            clear hrA3 hgA3 hatA
            go_wp2_with fail
            go_ret
            refine ⟨?_, HFRA3.out⟩
            rw [HLO.out acc rest (by rw [HRES.out, ← HNS.out]; exact rights_stop (by rw [HMM.out]; exact HK1.out)), HPR.out]
            exact ⟨rfl, x, HRA3.out⟩

end Go.Proofs.YtpgmapjjjpcmfaaGreatDoor

namespace Go.Proofs.YtpgmapjjjpcmfaaGreatDoor
open Go.RowKit
open Lx
set_option linter.unusedVariables false
set_option linter.unusedSimpArgs false
set_option maxRecDepth 100000

theorem field_kind (m : Mk) (w : World) : (Instr.field 124 (.agg #[.int .i64 (m.kind : Int), .string (str m.text), .int .i64 (m.line : Int), .int .i64 (m.col : Int)]) 0).run Tryz.prog w = .ok (.int .i64 (m.kind : Int)) w := by kernel_rfl
theorem field_at (m : Mk) (w : World) : (Instr.field 124 (.agg #[.int .i64 (m.kind : Int), .string (str m.text), .int .i64 (m.line : Int), .int .i64 (m.col : Int)]) 2).run Tryz.prog w = .ok (.agg #[.int .i64 (m.line : Int), .int .i64 (m.col : Int)]) w := by kernel_rfl

theorem alts_bad {f c : Nat} {left : Rd.Name} {acc : List Rd.Rule} {ms r : List Mk} (hf : 0 < f) (h : Rd.alt left acc.length ms = .bad c r) : Rd.alts f left acc ms = .bad c r := by
  cases f with
  | zero => omega
  | succ f => unfold Rd.alts; rw [h]
theorem alts_ok {f : Nat} {left : Rd.Name} {acc : List Rd.Rule} {ms r : List Mk} {x : Rd.Rule} (hf : 0 < f) (h : Rd.alt left acc.length ms = .ok x r) :
    Rd.alts f left acc ms = if (Rd.hd r).kind = 8 then .ok (acc ++ [x]) r.tail else if (Rd.hd r).kind = 7 then Rd.alts (f - 1) left (acc ++ [x]) r.tail else .bad 14 r := by
  cases f with
  | zero => omega
  | succ f => conv => lhs; unfold Rd.alts
              rw [h]; rfl
theorem rules_bad {f c : Nat} {acc : List Rd.Rule} {ms r : List Mk} (hf : 0 < f) (h : Rd.rule acc ms = .bad c r) : Rd.rules f acc ms = .bad c r := by
  cases f with
  | zero => omega
  | succ f => unfold Rd.rules; rw [h]
theorem rules_ok {f : Nat} {acc acc' : List Rd.Rule} {ms r : List Mk} (hf : 0 < f) (h : Rd.rule acc ms = .ok acc' r) :
    Rd.rules f acc ms = if (Rd.hd r).kind = 0 then .ok acc' r else Rd.rules (f - 1) acc' r := by
  cases f with
  | zero => omega
  | succ f => conv => lhs; unfold Rd.rules
              rw [h]; rfl
theorem rights_code {acc : List Rd.Name} {ms : List Mk} {c : Nat} {r : List Mk} : Rd.rights ms acc = .bad c r → c = 3 := by
  fun_induction Rd.rights ms acc
  all_goals first
    | (intro h; cases h; done)
    | (intro h; cases h; rfl)
    | (rename_i ih; exact ih)
theorem alt_code {left : Rd.Name} {n c : Nat} {ms r : List Mk} (h : Rd.alt left n ms = .bad c r) : c ≠ 0 := by
  unfold Rd.alt at h
  split at h
  · cases h; decide
  · cases hr : Rd.rights ms [] with
    | bad e r' =>
      rw [hr] at h
      cases h
      rw [rights_code hr]; decide
    | ok l r' =>
      rw [hr] at h
      simp only [] at h
      cases hp : Rd.prec r' with
      | bad e r2 =>
        rw [hp] at h
        cases h
        unfold Rd.prec at hp
        repeat' split at hp
        all_goals first
          | (cases hp; done)
          | (cases hp; decide)
      | ok p r2 =>
        rw [hp] at h
        simp only [] at h
        unfold Rd.action at h
        split at h <;> cases h
theorem alts_code {f c : Nat} {left : Rd.Name} {acc : List Rd.Rule} {ms r : List Mk} (h : Rd.alts f left acc ms = .bad c r) : c ≠ 0 := by
  induction f generalizing acc ms with
  | zero => unfold Rd.alts at h; cases h; decide
  | succ f ih =>
    unfold Rd.alts at h
    cases ha : Rd.alt left acc.length ms with
    | bad e r' =>
      rw [ha] at h
      cases h
      exact alt_code ha
    | ok x r' =>
      rw [ha] at h
      simp only [] at h
      split at h
      · cases h
      · split at h
        · exact ih h
        · cases h; decide
theorem rule_code {acc : List Rd.Rule} {c : Nat} {ms r : List Mk} (h : Rd.rule acc ms = .bad c r) : c ≠ 0 := by
  unfold Rd.rule at h
  split at h
  · cases h; decide
  · split at h
    · cases h; decide
    · exact alts_code h

theorem RdAt.moved {w w' : World} {B g m : Nat} {d : Rd.Decls} {rs : List Rd.Rule} {lev : List Rd.Name} {ms ms' : List Mk} {x : Tl} (hr : Rest w g x ms) (hb : Body w B x d rs lev) (hm : x.m = m) (hB : B ≤ g) (hs : Small d rs lev ms) (hr' : Rest w' g x ms') (hg : w.grownBy w' (some g)) (hl : ms'.length ≤ ms.length) :
    RdAt w' B g m d rs lev ms' ∧ Fr B m w w' := by
  obtain ⟨cs, hat⟩ := hr.at_
  refine ⟨⟨⟨x, hr', hb.far hat hg, hm⟩, hB, ?_⟩, Fr.at_ hat hg hB⟩
  obtain ⟨q1, q2, q3, q4, q5⟩ := hs
  exact ⟨q1, q2, q3, q4, by omega⟩
theorem takeR_le (k : Nat) (ms : List Mk) : (takeR k ms).length ≤ ms.length := by unfold takeR; split <;> simp
/-- take, at all of a reading. -/
theorem take_all (k : Nat) (hk : 1 ≤ k) (B g m : Nat) (d : Rd.Decls) (rs : List Rd.Rule) (lev : List Rd.Name) (ms : List Mk) (w : World) (hr : RdAt w B g m d rs lev ms) :
    Calls Tryz.prog 137 #[.pointer (some ⟨g, 0, none⟩), .int .i64 (k : Int)] w fun e w' => e = .returned (takeV k ms) ∧ RdAt w' B g m d rs lev (takeR k ms) ∧ Fr B m w w' := by
  obtain ⟨x, h1, h2, h3⟩ := hr.ex
  refine (take_any k hk g x ms w h1).mono ?_
  rintro e w' ⟨rfl, hr', hg⟩
  obtain ⟨q1, q2⟩ := RdAt.moved h1 h2 h3 hr.base hr.small hr' hg (takeR_le k ms)
  exact ⟨rfl, q1, q2⟩
theorem RdAt.rest {w : World} {B g m : Nat} {d : Rd.Decls} {rs : List Rd.Rule} {lev : List Rd.Name} {ms : List Mk} (h : RdAt w B g m d rs lev ms) : ∃ x, Rest w g x ms := by obtain ⟨x, h1, _⟩ := h.ex; exact ⟨x, h1⟩
theorem RdAt.count {w : World} {B g m : Nat} {d : Rd.Decls} {rs : List Rd.Rule} {lev : List Rd.Name} {ms : List Mk} (h : RdAt w B g m d rs lev ms) : restLen w g = ms.length := by obtain ⟨x, h1, _⟩ := h.ex; exact h1.count

set_option maxHeartbeats 4000000 in
theorem rule_any (B g m : Nat) (d : Rd.Decls) (rs : List Rd.Rule) (lev : List Rd.Name) (ms : List Mk) (w : World) (hr : RdAt w B g m d rs lev ms) :
    Calls Tryz.prog 121 #[.pointer (some ⟨g, 0, none⟩)] w fun e w' => ToldR B g m d lev (Rd.rule rs ms) e w' ∧ Fr B m w w' := by
  have HR := Lib.hid hr
  have HF := Lib.hid (Fr.refl B m w)
  clear hr
  by_cases h1 : (Rd.hd ms).kind = 1
  · have V1 := Lib.hid (takeV_yes h1)
    have R1 := Lib.hid (takeR_yes h1)
    by_cases h6 : (Rd.hd ms.tail).kind = 6
    · have V6 := Lib.hid (takeV_yes h6)
      have R6 := Lib.hid (takeR_yes h6)
      have e : Rd.rule rs ms = Rd.alts (ms.length + 1) (Rd.hd ms).text rs ms.tail.tail := by unfold Rd.rule; rw [if_neg (by simp [h1]), if_neg (by simp [h6])]
      have hlen : ms.tail.tail.length < ms.length + 1 := by simp; omega
      obtain ⟨RES, hRES⟩ : ∃ RES, Rd.rule rs ms = RES := ⟨_, rfl⟩
      rw [hRES] at e ⊢
      have HRES := Lib.hid e.symm
      have HL := Lib.hid hlen
      clear e h1 h6 hRES hlen
      generalize (Rd.hd ms).text = left at V1 HRES
      generalize (Rd.hd ms.tail).text = T6 at V6
      go_enter Tryz.func121, Tryz.ntmps121
      go_wp2_with fail
      refine (take_all 1 (by omega) B g m d rs lev ms _ HR.out).mono ?_
      rw [V1.out, R1.out]
      rintro e w1 ⟨rfl, hr, hf⟩
      have HRw1 := Lib.hid hr
      have HFw1 := Lib.hid (HF.out.trans hf)
      clear hr hf
      go_wp2_with fail
      refine (take_all 6 (by omega) B g m d rs lev ms.tail _ HRw1.out).mono ?_
      rw [V6.out, R6.out]
      rintro e w2 ⟨rfl, hr, hf⟩
      have HRw2 := Lib.hid hr
      have HFw2 := Lib.hid (HFw1.out.trans hf)
      clear hr hf
      go_wp2_with fail
      go_loopw [7] (fun _ wr => ∃ (acc : List Rd.Rule) (rest : List Mk) (f : Nat), RdAt wr B g m d acc lev rest ∧ Rd.alts f left acc rest = RES ∧ rest.length < f ∧ Fr B m w wr) (fun _ wr => restLen wr g)
      case atStart => exact ⟨rs, ms.tail.tail, ms.length + 1, HRw2.out, HRES.out, HL.out, HFw2.out⟩
      case round =>
        obtain ⟨acc, rest, f, hr, hd, hf, hfr⟩ := hrel
        have HR0 := Lib.hid hr
        have HD := Lib.hid hd
        have HFR := Lib.hid hfr
        have hf0 : 0 < f := by omega
        clear hr hd hfr
        cases ha : Rd.alt left acc.length rest with
        | bad c r =>
          have hc0 := alt_code ha
          have c1 : ((c : Int) != 0) = true := by rw [bne_iff_ne]; omega
          have c2 : (c != 0) = true := by rw [bne_iff_ne]; omega
          have HA := Lib.hid ha
          have HE := Lib.hid (show RES = .bad c r by rw [← HD.out]; exact alts_bad hf0 ha)
          clear ha hc0
          go_wp2_with fail
          refine (alt_any left B g m d acc lev rest _ HR0.out).mono ?_
          rw [HA.out]
          rintro e w5 ⟨⟨rfl, h5⟩, hf5⟩
          have H5 := Lib.hid h5
          have HF5 := Lib.hid (HFR.out.trans hf5)
          clear h5 hf5
          go_wp2_with fail
          go_ret
          refine ⟨?_, HF5.out⟩
          rw [HE.out]
          exact ⟨rfl, H5.out⟩
        | ok x r =>
          have HA := Lib.hid ha
          have HE := Lib.hid (HD.out.symm.trans (alts_ok hf0 ha))
          have hmost := Rd.alt_most left acc.length rest
          rw [ha] at hmost
          have hmost' : r.length ≤ rest.length := hmost
          have HM := Lib.hid hmost'
          clear ha hmost hmost'
          by_cases h8 : (Rd.hd r).kind = 8
          · have V8 := Lib.hid (takeV_yes h8)
            have R8 := Lib.hid (takeR_yes h8)
            have he := HE.out
            rw [if_pos h8] at he
            have HE8 := Lib.hid he
            clear h8 he
            generalize (Rd.hd r).text = T8 at V8
            go_wp2_with fail
            refine (alt_any left B g m d acc lev rest _ HR0.out).mono ?_
            rw [HA.out]
            rintro e w5 ⟨⟨rfl, h5⟩, hf5⟩
            have H5 := Lib.hid h5
            have HF5 := Lib.hid (HFR.out.trans hf5)
            clear h5 hf5
            go_wp2_with fail
            refine (take_all 8 (by omega) B g m d (acc ++ [x]) lev r _ H5.out).mono ?_
            rw [V8.out, R8.out]
            rintro e w6 ⟨rfl, hr, hf⟩
            have HRw6 := Lib.hid hr
            have HFw6 := Lib.hid (HF5.out.trans hf)
            clear hr hf
            go_wp2_with fail
            go_ret
            refine ⟨?_, HFw6.out⟩
            rw [HE8.out]
            exact ⟨rfl, HRw6.out⟩
          · have V8 := Lib.hid (takeV_no h8)
            have R8 := Lib.hid (takeR_no h8)
            by_cases h7 : (Rd.hd r).kind = 7
            · have V7 := Lib.hid (takeV_yes h7)
              have R7 := Lib.hid (takeR_yes h7)
              have he := HE.out
              rw [if_neg h8, if_pos h7] at he
              have HE7 := Lib.hid he
              have hlt := Rd.hd_lt (ms := r) (by omega)
              have HLT := Lib.hid hlt
              clear h8 h7 he hlt
              generalize (Rd.hd r).text = T7 at V7
              go_wp2_with fail
              refine (alt_any left B g m d acc lev rest _ HR0.out).mono ?_
              rw [HA.out]
              rintro e w5 ⟨⟨rfl, h5⟩, hf5⟩
              have H5 := Lib.hid h5
              have HF5 := Lib.hid (HFR.out.trans hf5)
              clear h5 hf5
              go_wp2_with fail
              refine (take_all 8 (by omega) B g m d (acc ++ [x]) lev r _ H5.out).mono ?_
              rw [V8.out, R8.out]
              rintro e w6 ⟨rfl, hr, hf⟩
              have HRw6 := Lib.hid hr
              have HFw6 := Lib.hid (HF5.out.trans hf)
              clear hr hf
              go_wp2_with fail
              refine (take_all 7 (by omega) B g m d (acc ++ [x]) lev r _ HRw6.out).mono ?_
              rw [V7.out, R7.out]
              rintro e w7 ⟨rfl, hr, hf⟩
              have HRw7 := Lib.hid hr
              have HFw7 := Lib.hid (HFw6.out.trans hf)
              clear hr hf
              go_wp2_with fail
              go_roundw
              case rel => exact ⟨acc ++ [x], r.tail, f - 1, HRw7.out, HE7.out.symm, by have := HLT.out; have := HM.out; omega, HFw7.out⟩
              case measure =>
                have h1 := HRw7.out.count
                have h2 := HR0.out.count
                have h3 := HLT.out
                have h4 := HM.out
                rw [h1, h2]; omega
            · have V7 := Lib.hid (takeV_no h7)
              have R7 := Lib.hid (takeR_no h7)
              have he := HE.out
              rw [if_neg h8, if_neg h7] at he
              have HE7 := Lib.hid he
              clear h8 h7 he
              go_wp2_with fail
              refine (alt_any left B g m d acc lev rest _ HR0.out).mono ?_
              rw [HA.out]
              rintro e w5 ⟨⟨rfl, h5⟩, hf5⟩
              have H5 := Lib.hid h5
              have HF5 := Lib.hid (HFR.out.trans hf5)
              clear h5 hf5
              go_wp2_with fail
              refine (take_all 8 (by omega) B g m d (acc ++ [x]) lev r _ H5.out).mono ?_
              rw [V8.out, R8.out]
              rintro e w6 ⟨rfl, hr, hf⟩
              have HRw6 := Lib.hid hr
              have HFw6 := Lib.hid (HF5.out.trans hf)
              clear hr hf
              go_wp2_with fail
              refine (take_all 7 (by omega) B g m d (acc ++ [x]) lev r _ HRw6.out).mono ?_
              rw [V7.out, R7.out]
              rintro e w7 ⟨rfl, hr, hf⟩
              have HRw7 := Lib.hid hr
              have HFw7 := Lib.hid (HFw6.out.trans hf)
              clear hr hf
              go_wp2_with fail
              go_ret
              refine ⟨?_, HFw7.out⟩
              rw [HE7.out]
              exact ⟨rfl, HRw7.out.rest⟩
    · have V6 := Lib.hid (takeV_no h6)
      have R6 := Lib.hid (takeR_no h6)
      have e : Rd.rule rs ms = .bad 14 ms.tail := by unfold Rd.rule; rw [if_neg (by simp [h1]), if_pos h6]
      rw [e]
      clear e h1 h6
      generalize (Rd.hd ms).text = left at V1
      go_enter Tryz.func121, Tryz.ntmps121
      go_wp2_with fail
      refine (take_all 1 (by omega) B g m d rs lev ms _ HR.out).mono ?_
      rw [V1.out, R1.out]
      rintro e w1 ⟨rfl, hr, hf⟩
      have HRw1 := Lib.hid hr
      have HFw1 := Lib.hid (HF.out.trans hf)
      clear hr hf
      go_wp2_with fail
      refine (take_all 6 (by omega) B g m d rs lev ms.tail _ HRw1.out).mono ?_
      rw [V6.out, R6.out]
      rintro e w2 ⟨rfl, hr, hf⟩
      have HRw2 := Lib.hid hr
      have HFw2 := Lib.hid (HFw1.out.trans hf)
      clear hr hf
      go_wp2_with fail
      go_ret
      exact ⟨⟨rfl, HRw2.out.rest⟩, HFw2.out⟩
  · have V1 := Lib.hid (takeV_no h1)
    have R1 := Lib.hid (takeR_no h1)
    have e : Rd.rule rs ms = .bad 14 ms := by unfold Rd.rule; rw [if_pos h1]
    rw [e]
    clear e h1
    go_enter Tryz.func121, Tryz.ntmps121
    go_wp2_with fail
    refine (take_all 1 (by omega) B g m d rs lev ms _ HR.out).mono ?_
    rw [V1.out, R1.out]
    rintro e w1 ⟨rfl, hr, hf⟩
    have HRw1 := Lib.hid hr
    have HFw1 := Lib.hid (HF.out.trans hf)
    clear hr hf
    go_wp2_with fail
    go_ret
    exact ⟨⟨rfl, HRw1.out.rest⟩, HFw1.out⟩

set_option maxHeartbeats 4000000 in
theorem rules_any (B g m : Nat) (d : Rd.Decls) (rs : List Rd.Rule) (lev : List Rd.Name) (ms : List Mk) (w : World) (hr : RdAt w B g m d rs lev ms) :
    Calls Tryz.prog 100 #[.pointer (some ⟨g, 0, none⟩)] w fun e w' => ToldR B g m d lev (Rd.rules (ms.length + 1) rs ms) e w' ∧ Fr B m w w' := by
  have HR := Lib.hid hr
  clear hr
  obtain ⟨RES, hRES⟩ : ∃ RES, Rd.rules (ms.length + 1) rs ms = RES := ⟨_, rfl⟩
  rw [hRES]
  have HRES := Lib.hid hRES
  clear hRES
  go_enter Tryz.func100, Tryz.ntmps100
  go_wp2_with fail
  go_loopw [3] (fun _ wr => ∃ (acc : List Rd.Rule) (rest : List Mk) (f : Nat), RdAt wr B g m d acc lev rest ∧ Rd.rules f acc rest = RES ∧ rest.length < f ∧ Fr B m w wr) (fun _ wr => restLen wr g)
  case atStart => exact ⟨rs, ms, ms.length + 1, HR.out, HRES.out, by omega, Fr.refl _ _ _⟩
  case round =>
    obtain ⟨acc, rest, f, hr, hd, hf, hfr⟩ := hrel
    have HR0 := Lib.hid hr
    have HD := Lib.hid hd
    have HFR := Lib.hid hfr
    have hf0 : 0 < f := by omega
    clear hr hd hfr
    cases ha : Rd.rule acc rest with
    | bad c r =>
      have hc0 := rule_code ha
      have c1 : ((c : Int) != 0) = true := by rw [bne_iff_ne]; omega
      have c2 : (c != 0) = true := by rw [bne_iff_ne]; omega
      have HA := Lib.hid ha
      have HE := Lib.hid (show RES = .bad c r by rw [← HD.out]; exact rules_bad hf0 ha)
      clear ha hc0
      go_wp2_with fail
      refine (rule_any B g m d acc lev rest _ HR0.out).mono ?_
      rw [HA.out]
      rintro e w5 ⟨⟨rfl, h5⟩, hf5⟩
      have H5 := Lib.hid h5
      have HF5 := Lib.hid (HFR.out.trans hf5)
      clear h5 hf5
      go_wp2_with fail
      go_ret
      refine ⟨?_, HF5.out⟩
      rw [HE.out]
      exact ⟨rfl, H5.out⟩
    | ok acc' r =>
      have HA := Lib.hid ha
      have HE := Lib.hid (HD.out.symm.trans (rules_ok hf0 ha))
      have hless := Rd.rule_less acc rest
      rw [ha] at hless
      have hless' : r.length < rest.length := hless
      have HLS := Lib.hid hless'
      clear ha hless hless'
      obtain ⟨M, hM⟩ : ∃ M, Rd.hd r = M := ⟨_, rfl⟩
      have HM := Lib.hid hM
      have hfk := field_kind M
      by_cases h0 : M.kind = 0
      · have he := HE.out
        rw [hM, if_pos h0] at he
        have HE0 := Lib.hid he
        have k1 : ((M.kind : Int) == 0) = true := by rw [beq_iff_eq]; omega
        have k2 : (M.kind == 0) = true := by rw [beq_iff_eq]; omega
        clear h0 he hM
        go_wp2_with fail
        refine (rule_any B g m d acc lev rest _ HR0.out).mono ?_
        rw [HA.out]
        rintro e w5 ⟨⟨rfl, h5⟩, hf5⟩
        have H5 := Lib.hid h5
        have HF5 := Lib.hid (HFR.out.trans hf5)
        clear h5 hf5
        go_wp2_with fail
        obtain ⟨x, hx⟩ := H5.out.rest
        refine (here_any g x r _ hx).mono ?_
        rw [HM.out]
        rintro e w6 ⟨rfl, hb6⟩
        have H6 := Lib.hid (H5.out.below hb6)
        have HF6 := Lib.hid (HF5.out.trans (Fr.of_below hb6 (by have := hx.lt; have := H5.out.base; omega)))
        clear hb6 hx
        unfold Mk.val
        go_wp2_with fail
        go_ret
        refine ⟨?_, HF6.out⟩
        rw [HE0.out]
        exact ⟨rfl, H6.out⟩
      · have he := HE.out
        rw [hM, if_neg h0] at he
        have HE0 := Lib.hid he
        have k1 : ((M.kind : Int) == 0) = false := by rw [beq_eq_false_iff_ne]; omega
        have k2 : (M.kind == 0) = false := by rw [beq_eq_false_iff_ne]; omega
        clear h0 he hM
        go_wp2_with fail
        refine (rule_any B g m d acc lev rest _ HR0.out).mono ?_
        rw [HA.out]
        rintro e w5 ⟨⟨rfl, h5⟩, hf5⟩
        have H5 := Lib.hid h5
        have HF5 := Lib.hid (HFR.out.trans hf5)
        clear h5 hf5
        go_wp2_with fail
        obtain ⟨x, hx⟩ := H5.out.rest
        refine (here_any g x r _ hx).mono ?_
        rw [HM.out]
        rintro e w6 ⟨rfl, hb6⟩
        have H6 := Lib.hid (H5.out.below hb6)
        have HF6 := Lib.hid (HF5.out.trans (Fr.of_below hb6 (by have := hx.lt; have := H5.out.base; omega)))
        clear hb6 hx
        unfold Mk.val
        go_wp2_with fail
        go_roundw
        case rel => exact ⟨acc', r, f - 1, H6.out, HE0.out.symm, by have := HLS.out; omega, HF6.out⟩
        case measure =>
          have h1 := H6.out.count
          have h2 := HR0.out.count
          have h3 := HLS.out
          rw [h1, h2]; exact h3

end Go.Proofs.YtpgmapjjjpcmfaaGreatDoor
