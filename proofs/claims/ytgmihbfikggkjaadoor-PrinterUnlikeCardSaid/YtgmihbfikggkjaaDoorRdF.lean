/-
  The walks of a reading's level, left, right, nonassoc.
-/
import Derived.Test.YtgmihbfikggkjaaDoorRdC
namespace Go.Proofs.YtgmihbfikggkjaaDoor
open Go.RowKit
open Lx
set_option linter.unusedVariables false
set_option linter.unusedSimpArgs false
set_option maxRecDepth 100000

/-- What the rows of a body lie in stays. -/
structure Five (a w : World) : Prop where
  tok : Stay 58 a w
  pat : Stay 53 a w
  lev : Stay 61 a w
  rul : Stay 30 a w
  str : Stay 9 a w
section
variable {a w w' : World}
theorem Five.refl (w : World) : Five w w := ⟨Stay.refl _ _, Stay.refl _ _, Stay.refl _ _, Stay.refl _ _, Stay.refl _ _⟩
theorem Five.trans (h : Five a w) (k : Five w w') : Five a w' := ⟨h.tok.trans k.tok, h.pat.trans k.pat, h.lev.trans k.lev, h.rul.trans k.rul, h.str.trans k.str⟩
theorem Five.below (h : Five a w) (hb : Below w.heap.size w w') : Five a w' := h.trans ⟨Stay.below hb, Stay.below hb, Stay.below hb, Stay.below hb, Stay.below hb⟩
theorem Five.alloc (h : Five a w) (o : Obj) : Five a (w.alloc o) := h.below ((Below.refl _ _).alloc (Nat.le_refl _) o)
theorem Five.drew (h : Five a w) : Five a w.drew := h.below (below_drew (Below.refl _ _))
theorem Five.far {g : Nat} {cs : Array Value} (h : Five a w) (hg : At w g 86 cs) (hk : w.grownBy w' (some g)) : Five a w' :=
  h.trans ⟨Stay.far hg (by decide) hk, Stay.far hg (by decide) hk, Stay.far hg (by decide) hk, Stay.far hg (by decide) hk, Stay.far hg (by decide) hk⟩
theorem not_cells {w : World} {m : Nat} {lev : List Rd.Name} (h : HasSet w m lev) : ∀ k, some m = some k → ∀ t cs, ¬ At w k t cs := by
  rintro k e t cs hc
  injection e with e
  exact h.ne hc e
theorem Five.set_ {m : Nat} {lev : List Rd.Name} (h : Five a w) (hs : HasSet w m lev) (hk : w.grownBy w' (some m)) : Five a w' :=
  ⟨h.tok.grown hk fun k e => .inr (not_cells hs k e _), h.pat.grown hk fun k e => .inr (not_cells hs k e _), h.lev.grown hk fun k e => .inr (not_cells hs k e _), h.rul.grown hk fun k e => .inr (not_cells hs k e _), h.str.grown hk fun k e => .inr (not_cells hs k e _)⟩
theorem Five.new {row : Option Nat} (h : Five a w) (hk : w.grownBy w' row) (hr : ∀ k, row = some k → a.heap.size ≤ k) : Five a w' :=
  ⟨h.tok.grown hk fun k e => .inl (hr k e), h.pat.grown hk fun k e => .inl (hr k e), h.lev.grown hk fun k e => .inl (hr k e), h.rul.grown hk fun k e => .inl (hr k e), h.str.grown hk fun k e => .inl (hr k e)⟩
end

theorem Body.levels_ {w w' : World} {B : Nat} {x : Tl} {d : Rd.Decls} {rs : List Rd.Rule} {lev : List Rd.Name} (h : Body w B x d rs lev) {v' vn : Value} {l : Rd.Lev} {pl : List (Rd.Lev × Value)} (hpl : pl.map (·.1) = d.levels) (hn : ∀ p ∈ pl, Nms w p.2 p.1.names) (hown : w.ownsRow B 61 2 x.l d.levels.length (levsV pl))
    (ho : w'.ownsRow B 61 2 v' (d.levels.length + 1) (levsV pl ++ levCells (l, vn))) (hl : Nms w vn l.names) (hg : w.grownBy w' x.l.ownBlock) :
    Body w' B { x with l := v' } { d with levels := d.levels ++ [l] } rs lev := by
  have hm : HasSet w' x.m lev := h.set_.kept hg (fun e => by
    rcases hown.2 with ⟨e1, _⟩ | ⟨g, cap, cur, e1, _, hgg, _⟩
    · rw [e1] at e; simp [Value.ownBlock] at e
    · rw [e1] at e
      simp [Value.ownBlock] at e
      exact h.set_.ne (g := g) (t := _) (cs := cur) hgg e)
  have hs : Stay 9 w w' := Stay.own hown (by decide) hg
  refine ⟨own_stay h.tok (Stay.own hown (by decide) hg), own_stay h.skp (Stay.own hown (by decide) hg), ⟨pl ++ [(l, vn)], by simp [hpl], by rw [levsV_snoc, List.length_append]; exact ho, fun p hp => ?_⟩, h.st, ?_, hm, h.b, h.base⟩
  · rcases List.mem_append.1 hp with hp | hp
    · exact (hn p hp).stay hs
    · simp at hp; subst hp; exact hl.stay hs
  · obtain ⟨ql, e, h6, h7⟩ := h.rls
    exact ⟨ql, e, own_stay h6 (Stay.own hown (by decide) hg), fun p hp => (h7 p hp).stay hs⟩

theorem names_stop {lev acc : List Rd.Name} {ms : List Mk} (h : ¬ (Rd.hd ms).kind = 1) : Rd.names lev ms acc = .ok acc ms := by
  cases ms with
  | nil => rfl
  | cons m r => rw [Rd.hd_cons] at h; unfold Rd.names; rw [if_neg h]
theorem names_twice {lev acc : List Rd.Name} {ms : List Mk} (h : (Rd.hd ms).kind = 1) (h2 : (Rd.hd ms).text ∈ lev ++ acc) : Rd.names lev ms acc = .bad 15 ms := by
  cases ms with
  | nil => simp [Rd.hd_nil] at h
  | cons m r => rw [Rd.hd_cons] at h h2; unfold Rd.names; rw [if_pos h, if_pos h2]
theorem names_on {lev acc : List Rd.Name} {ms : List Mk} (h : (Rd.hd ms).kind = 1) (h2 : ¬ (Rd.hd ms).text ∈ lev ++ acc) : Rd.names lev ms acc = Rd.names lev ms.tail (acc ++ [(Rd.hd ms).text]) := by
  cases ms with
  | nil => simp [Rd.hd_nil] at h
  | cons m r => rw [Rd.hd_cons] at h h2 ⊢; conv => lhs; unfold Rd.names
                rw [if_pos h, if_neg h2]; rfl
theorem hd_sane {ms : List Mk} (h : Sane ms) : (Rd.hd ms).text.length ≤ 4000 := by
  cases ms with
  | nil => simp [Rd.hd_nil]
  | cons m r => exact h.2 m (by simp)

/-- How many marks are left, as memory has it. -/
def restLen (w : World) (g : Nat) : Nat := match w.cell? ⟨g, 0, none⟩ with | some (.slice _ n _) => n | _ => 0
theorem Rest.count {w : World} {g : Nat} {x : Tl} {ms : List Mk} (h : Rest w g x ms) : restLen w g = ms.length := by
  obtain ⟨A, cap, _, h1, _⟩ := h.ex
  have := h1.cell 0
  simp only [Tl.cells, List.getElem?_toArray, List.getElem?_cons_zero] at this
  unfold restLen; rw [this]

theorem At.four_ {w : World} {g : Nat} {t : TypeId} {a b c d : Value} (h : At w g t #[a, b, c, d]) (a' b' c' d' : Value) :
    At ((((w.setCell ⟨g, 0, none⟩ a').setCell ⟨g, 1, none⟩ b').setCell ⟨g, 2, none⟩ c').setCell ⟨g, 3, none⟩ d') g t #[a', b', c', d'] := by
  have := (((h.set 0 a').set 1 b').set 2 c').set 3 d'
  simpa using this
theorem HasSet.below {w w' : World} {m : Nat} {lev : List Rd.Name} (h : HasSet w m lev) (hb : Below w.heap.size w w') : HasSet w' m lev :=
  h.kept (row := none) ⟨hb.os, hb.tape, hb.output, hb.size, fun i hi _ => hb.block i hi⟩ (by simp)
theorem levelled_snoc (d : Rd.Decls) (a : Nat) (l : List Rd.Name) : Rd.levelled { d with levels := d.levels ++ [⟨a, l⟩] } = Rd.levelled d ++ l := by simp [Rd.levelled]

def markCells (m : Mk) : Array Value := #[.int .i64 (m.kind : Int), .string (str m.text), .int .i64 (m.line : Int), .int .i64 (m.col : Int)]

set_option maxHeartbeats 4000000 in
theorem level_any (a : Nat) (ha : a ≤ 3) (B g m : Nat) (d : Rd.Decls) (ms : List Mk) (w : World) (hr : RdAt w B g m d [] (Rd.levelled d) ms) (hne : ms ≠ []) :
    Calls Tryd.prog 108 #[.pointer (some ⟨g, 0, none⟩), .int .i64 (a : Int)] w fun e w' => Told B g m (Rd.level a d ms) e w' ∧ Fr B m w w' := by
  obtain ⟨x, hre, hbo, rfl⟩ := hr.ex
  have hB := hr.base
  have HS := Lib.hid hr.small
  obtain ⟨A, cap, hcap, hat, hli⟩ := hre.ex
  have hlt := hat.lt
  obtain ⟨pl, hpl, hown, hnm⟩ := hbo.lvs
  obtain ⟨ao, so, hx⟩ := own_form hown
  have HRE := Lib.hid hre
  have HBO := Lib.hid hbo
  have HAT := Lib.hid hat
  have HX := Lib.hid hx
  have HPL := Lib.hid hpl
  have HOWN := Lib.hid hown
  have HNM := Lib.hid hnm
  have c3 := hat.cell 3
  simp only [Tl.cells, List.getElem?_toArray, List.getElem?_cons_zero, List.getElem?_cons_succ] at c3
  rw [hx] at c3
  clear hr hre hbo hat hli hx hpl hown hnm
  by_cases h10 : d.levels.length = 10
  · have e : Rd.level a d ms = .bad 3 ms := by unfold Rd.level; rw [if_pos h10]
    rw [e]
    rw [h10] at c3
    clear e h10
    go_enter Tryd.func108, Tryd.ntmps108
    go_wp2_with fail
    go_ret
    exact ⟨⟨rfl, x, HRE.out⟩, Fr.refl _ _ _⟩
  · obtain ⟨N, hN⟩ : ∃ N, d.levels.length = N := ⟨_, rfl⟩
    have hn4 : ((N : Int) == 10) = false := by rw [beq_eq_false_iff_ne]; omega
    have hn5 : (N == 10) = false := by rw [beq_eq_false_iff_ne]; omega
    have hn10 : N ≤ 10 := by have := HS.out.2.2.1; omega
    have hlv : ∀ l r, Rd.names (Rd.levelled d) ms.tail [] = .ok l r → Rd.level a d ms = if l = [] then .bad 14 r else .ok { d with levels := d.levels ++ [⟨a, l⟩] } r := by
      intro l r h; unfold Rd.level; rw [if_neg h10, h]
    have hlb : ∀ r, Rd.names (Rd.levelled d) ms.tail [] = .bad 15 r → Rd.level a d ms = .bad 15 r := by
      intro r h; unfold Rd.level; rw [if_neg h10, h]
    have HLO := Lib.hid hlv
    have HLB := Lib.hid hlb
    have HN := Lib.hid hN
    have HN10 := Lib.hid (show N ≠ 10 by omega)
    rw [hN] at c3
    clear hlv hlb hN h10
    obtain ⟨RES, hRES⟩ : ∃ RES, Rd.names (Rd.levelled d) ms.tail [] = RES := ⟨_, rfl⟩
    have HRES := Lib.hid hRES
    clear hRES
    obtain ⟨i0, hi, hz0, hz1, hz2⟩ := info_parts strinfo
    obtain ⟨i1, hi1, hy0, hy1, hy2⟩ := info_parts levinfo
    go_enter Tryd.func108, Tryd.ntmps108
    go_wp2_with fail
    refine (next_any g x ms _ HRE.out hne).mono ?_
    rintro e w1 ⟨rfl, hr1, hg1⟩
    have HR1 := Lib.hid hr1
    have HG1 := Lib.hid hg1
    clear hr1 hg1 c3
    go_wp2_with fail
    refine (here_any g x ms.tail _ HR1.out).mono ?_
    obtain ⟨M, hM⟩ : ∃ M, Rd.hd ms.tail = M := ⟨_, rfl⟩
    rw [hM]
    rintro e w2 ⟨rfl, hb2⟩
    have hs2 : w.heap.size ≤ w2.heap.size := Nat.le_trans HG1.out.size hb2.size
    have hR2 := (HR1.out.below hb2).alloc (.cells (markCells M) 55)
    have hF2 := ((Five.refl w).far HAT.out HG1.out).below hb2 |>.alloc (.cells (markCells M) 55)
    have hE2 := ((HBO.out.set_.kept HG1.out (by simpa using HBO.out.set_.ne HAT.out)).kept (row := none) ⟨hb2.os, hb2.tape, hb2.output, hb2.size, fun i hi _ => hb2.block i hi⟩ (by simp)).kept (World.grownBy_alloc w2 (.cells (markCells M) 55) none) (by simp)
    have hFr2 := ((Fr.at_ (m := x.m) HAT.out HG1.out hB).trans (Fr.of_below hb2 (by have := HG1.out.size; omega))).alloc (by omega) (.cells (markCells M) 55)
    have hM2 := At.new w2 55 (markCells M)
    rw [← hM] at hM2 hR2 hF2 hE2 hFr2
    have HR2 := Lib.hid hR2
    have HF2 := Lib.hid hF2
    have HE2 := Lib.hid hE2
    have HFr2 := Lib.hid hFr2
    have HM2 := Lib.hid hM2
    clear hb2 hR2 hF2 hE2 hFr2 hM2
    rw [← hM]
    clear hM
    unfold Mk.val
    go_wp2_with fail
    have HMS := Lib.hid (show (Rd.levelled d).length + ms.tail.length ≤ 1000000 by have := HS.out.2.2.2.2; simp; omega)
    go_loopw [5, 6] (fun v5 v6 wr => ∃ (acc : List Rd.Name) (rest : List Mk) (gm : Nat) (a5 : Option Addr) (s5 : Nat), v5 = .slice a5 acc.length s5 ∧ v6 = .pointer (some ⟨gm, 0, none⟩) ∧ At wr gm 55 (markCells (Rd.hd rest)) ∧ Rest wr g x rest ∧ Five w wr ∧ HasSet wr x.m (Rd.levelled d ++ acc) ∧ Fr B x.m w wr ∧
        wr.ownsRow w.heap.size 9 1 (.slice a5 acc.length s5) acc.length (namesV acc) ∧ Rd.names (Rd.levelled d) rest acc = RES ∧ (Rd.levelled d).length + acc.length + rest.length ≤ 1000000) (fun _ _ wr => restLen wr g)
    case atStart => exact ⟨[], ms.tail, w2.heap.size, none, 0, rfl, rfl, HM2.out, HR2.out, HF2.out, by rw [List.append_nil]; exact HE2.out, HFr2.out, World.ownsRow_nil _ _ _ _, HRES.out, by simpa using HMS.out⟩
    case round =>
      obtain ⟨acc, rest, gm, a5, s5, rfl, rfl, hm, hr, hf, he, hfr, hown, hnames, hcount⟩ := hrel
      have HM := Lib.hid hm
      have HR := Lib.hid hr
      have HF := Lib.hid hf
      have HE := Lib.hid he
      have HFR := Lib.hid hfr
      have HO := Lib.hid hown
      have HNS := Lib.hid hnames
      have HC := Lib.hid hcount
      obtain ⟨M, hM⟩ : ∃ M, Rd.hd rest = M := ⟨_, rfl⟩
      have HMM := Lib.hid hM
      have hsane := hd_sane hr.len
      rw [hM] at hsane
      obtain ⟨A3, cap3, hcap3, hat3, hli3⟩ := hr.ex
      have HAT3 := Lib.hid hat3
      have HLI3 := Lib.hid hli3
      rw [hM] at hm
      have m0 := hm.cell 0
      have m1 := hm.cell 1
      have m2 := hm.cell 2
      have m3 := hm.cell 3
      simp only [markCells, List.getElem?_toArray, List.getElem?_cons_zero, List.getElem?_cons_succ] at m0 m1 m2 m3
      have c0 := hat3.cell 0
      have c1 := hat3.cell 1
      have c2 := hat3.cell 2
      have c3 := hat3.cell 3
      have c4 := hat3.cell 4
      have c5 := hat3.cell 5
      have c6 := hat3.cell 6
      have c7 := hat3.cell 7
      have cf := hat3.frozen
      simp only [Tl.cells, List.getElem?_toArray, List.getElem?_cons_zero, List.getElem?_cons_succ] at c0 c1 c2 c3 c4 c5 c6 c7
      have hgl := hat3.lt
      have hml := hm.lt
      clear hm hr hf he hfr hown hnames hcount hat3 hli3 HM2 HR2 HF2 HE2 HFr2
      by_cases h1 : M.kind = 1
      · have k1 : ((M.kind : Int) == 1) = true := by rw [beq_iff_eq]; omega
        have k2 : (M.kind == 1) = true := by rw [beq_iff_eq]; omega
        have H1 := Lib.hid h1
        clear h1
        by_cases hin : M.text ∈ Rd.levelled d ++ acc
        · have hl1 := (HE.out.kept (w' := wr.drew) (row := none) ⟨rfl, rfl, rfl, Nat.le_refl _, fun _ _ _ => rfl⟩ (by simp)).look M.text hsane
          have hl2 : ∀ o, _ := fun o => (HE.out.kept (w' := (wr.alloc o).drew) (row := none) (grown_drew (World.grownBy_alloc wr o none)) (by simp)).look M.text hsane
          rw [decide_eq_true hin] at hl1
          simp only [decide_eq_true hin] at hl2
          have HIN := Lib.hid hin
          clear hin
          go_wp2_with fail
          go_region
          go_wp2_with fail
          go_ret
          refine ⟨?_, (HFR.out.alloc (by omega) _).drew⟩
          rw [HLB.out rest (by rw [HRES.out, ← HNS.out]; exact names_twice (by rw [HMM.out]; exact H1.out) (by rw [HMM.out]; exact HIN.out))]
          exact ⟨rfl, x, (HR.out.alloc _).drew⟩
        · have hl1 := (HE.out.kept (w' := wr.drew) (row := none) ⟨rfl, rfl, rfl, Nat.le_refl _, fun _ _ _ => rfl⟩ (by simp)).look M.text hsane
          have hl2 : ∀ o, _ := fun o => (HE.out.kept (w' := (wr.alloc o).drew) (row := none) (grown_drew (World.grownBy_alloc wr o none)) (by simp)).look M.text hsane
          rw [decide_eq_false hin] at hl1
          simp only [decide_eq_false hin] at hl2
          have hon := names_on (lev := Rd.levelled d) (acc := acc) (ms := rest) (by rw [HMM.out]; exact H1.out) (by rw [HMM.out]; exact hin)
          rw [HMM.out] at hon
          have HON := Lib.hid hon
          have hrne : rest ≠ [] := ne_of_kind (k := 1) (by rw [HMM.out]; exact H1.out) (by omega)
          clear hin hon
          go_wp2_with fail
          go_region
          go_wp2_with fail
          have hb4 : Below wr.heap.size wr (wr.alloc (.cells #[] 115)).drew := below_drew ((Below.refl _ _).alloc (Nat.le_refl _) _)
          obtain ⟨W4, hW4⟩ : ∃ W4, (wr.alloc (.cells #[] 115)).drew = W4 := ⟨_, rfl⟩
          rw [hW4] at hb4 ⊢
          have hs4 := hb4.size
          have HM4 := Lib.hid (HM.out.below hb4 HM.out.lt)
          have HR4 := Lib.hid (HR.out.below hb4)
          have HF4 := Lib.hid (HF.out.below hb4)
          have HE4 := Lib.hid (HE.out.below hb4)
          have HFR4 := Lib.hid (HFR.out.trans (Fr.of_below hb4 (by omega)))
          have HO4 := Lib.hid (own_below HO.out hb4 (fun k hk => (own_lt HO.out k hk).2))
          have HAT4 := Lib.hid (HAT3.out.below hb4 HAT3.out.lt)
          have hlc : (Rd.levelled d ++ acc).length ≤ 1000000 := by have := HC.out; rw [List.length_append]; omega
          obtain ⟨w5, hrun, he5, hg5⟩ := (HE4.out.kept (w' := W4.drew) (row := none) ⟨rfl, rfl, rfl, Nat.le_refl _, fun _ _ _ => rfl⟩ (by simp)).put M.text hsane hlc
          have hne4 : some gm ≠ some x.m := fun e => (HE4.out.ne HM4.out) (by injection e with e; exact e.symm)
          have hne5 : some g ≠ some x.m := fun e => (HE4.out.ne HAT4.out) (by injection e with e; exact e.symm)
          have hg5' : W4.grownBy w5 (some x.m) := grown_trans (grown_drew (grown_refl _ _)) hg5
          have HM5 := Lib.hid (HM4.out.grown hg5' hne4)
          have HAT5 := Lib.hid (HAT4.out.grown hg5' hne5)
          have hR5 : Rest w5 g x rest := HR4.out.stay (fun b cs hb => hb.grown hg5' (fun e => HE4.out.ne hb (by injection e with e; exact e.symm))) (fun b cs hb => hb.grown hg5' (fun e => HE4.out.ne hb (by injection e with e; exact e.symm)))
          have HR5 := Lib.hid hR5
          have HF5 := Lib.hid (HF4.out.set_ HE4.out hg5')
          have HE5 := Lib.hid he5
          have HFR5 := Lib.hid (HFR4.out.trans (Fr.map_ hg5' HBO.out.base (by omega)))
          have HO5 := Lib.hid (own_stay HO4.out (fun b cs hb => hb.grown hg5' (fun e => HE4.out.ne hb (by injection e with e; exact e.symm))))
          have c6' := HAT4.out.cell 6
          have m1' := HM4.out.cell 1
          have n1 := HM5.out.cell 1
          rw [HMM.out] at m1' n1
          simp only [Tl.cells, markCells, List.getElem?_toArray, List.getElem?_cons_zero, List.getElem?_cons_succ] at c6' m1' n1
          have hs5 : w.heap.size ≤ w5.heap.size := Nat.le_trans HFR4.out.below.size hg5'.size
          have hgm5 := HM5.out.lt
          clear hW4 hb4 hR5 he5 hg5 hg5' hl1 hl2 c0 c1 c2 c3 c4 c5 c6 c7 cf m0 m1 m2 m3 hs4
          go_region
          have hal : acc.length ≤ 1000000 := by have := HC.out; omega
          go_wp2_with (at_builtin; refine wpList_append_own2 _ rfl (.tmp 43) (.tmp 46) 28 rfl w.heap.size 9 i0 _ 1 16 Tryd.underlying28 hi hz0 hz1 hz2 rfl (by decide) _ _ _ rfl (HO5.out.alloc _) ⟨w5.heap.size, 0, none⟩ 1 1 [.string (str M.text)] rfl rfl (cells_new _ _ _) (by simp [Value.oneCell']) (by unfold maxLen; omega) (by omega) (by simp; omega) ?_)
          intro v' w6 hown6 hg6 hn6
          obtain ⟨a6, s6, rfl⟩ := own_form hown6
          have hg6' : w5.grownBy w6 (Value.slice a5 acc.length s5).ownBlock := grown_trans (World.grownBy_alloc _ _ _) hg6
          have hnew : ∀ k, (Value.slice a5 acc.length s5).ownBlock = some k → w.heap.size ≤ k := fun k hk => (own_lt HO5.out k hk).1
          have HM6 := Lib.hid (HM5.out.grown hg6' (fun e => own_apart HO5.out HM5.out (by decide) e.symm))
          have HAT6 := Lib.hid (HAT5.out.grown hg6' (fun e => own_apart HO5.out HAT5.out (by decide) e.symm))
          have HR6 := Lib.hid (HR5.out.stay (Stay.own HO5.out (by decide) hg6') (Stay.own HO5.out (by decide) hg6'))
          have HF6 := Lib.hid (HF5.out.new hg6' hnew)
          have HE6 := Lib.hid (HE5.out.kept hg6' (fun e => by
            rcases HO5.out.2 with ⟨e1, _⟩ | ⟨g', cap', cur, e1, _, hgg, _⟩
            · rw [e1] at e; simp [Value.ownBlock] at e
            · rw [e1] at e
              simp [Value.ownBlock] at e
              exact HE5.out.ne (g := g') (t := _) (cs := cur) hgg e))
          have HFR6 := Lib.hid (HFR5.out.trans (Fr.own HO5.out hg6' (by omega) (by omega)))
          have HO6 := Lib.hid hown6
          clear hown6 hg6 hg6' hn6 hnew c6' m1' n1 hs5
          go_wp2_with fail
          refine (next_any g x rest _ HR6.out hrne).mono ?_
          rintro e w7 ⟨rfl, hr7, hg7⟩
          have HR7 := Lib.hid hr7
          have HM7 := Lib.hid (HM6.out.grown hg7 (fun e => by
            injection e with e
            have h1 := HM6.out
            rw [e] at h1
            have h2 := HAT6.out
            unfold At at h1 h2
            rw [h1] at h2
            injection h2 with h2
            injection h2 with _ h2
            exact absurd h2 (by decide)))
          have HF7 := Lib.hid (HF6.out.far HAT6.out hg7)
          have HE7 := Lib.hid (HE6.out.kept hg7 (by simpa using HE6.out.ne HAT6.out))
          have HFR7 := Lib.hid (HFR6.out.trans (Fr.at_ HAT6.out hg7 hB))
          have HO7 := Lib.hid (own_stay HO6.out (Stay.far HAT6.out (by decide) hg7))
          have n0 := HM7.out.cell 0
          have n1 := HM7.out.cell 1
          have n2 := HM7.out.cell 2
          have n3 := HM7.out.cell 3
          rw [HMM.out] at n0 n1 n2 n3
          simp only [markCells, List.getElem?_toArray, List.getElem?_cons_zero, List.getElem?_cons_succ] at n0 n1 n2 n3
          have hs7 : w.heap.size ≤ w7.heap.size := HFR7.out.below.size
          clear hr7 hg7
          go_wp2_with fail
          refine (here_any g x rest.tail _ (HR7.out.alloc _)).mono ?_
          obtain ⟨M', hM'⟩ : ∃ M', Rd.hd rest.tail = M' := ⟨_, rfl⟩
          rw [hM']
          rintro e w8 ⟨rfl, hb8⟩
          have HN8 := Lib.hid ((At.new w7 55 (markCells M)).below hb8 (by simp))
          have hb8' : Below w7.heap.size w7 w8 := ((Below.refl _ _).alloc (Nat.le_refl _) _).trans (hb8.mono (by simp))
          have q0 := HN8.out.cell 0
          have q1 := HN8.out.cell 1
          have q2 := HN8.out.cell 2
          have q3 := HN8.out.cell 3
          have qf := HN8.out.frozen
          simp only [markCells, List.getElem?_toArray, List.getElem?_cons_zero, List.getElem?_cons_succ] at q0 q1 q2 q3
          have HB8 := Lib.hid hb8'
          have HMM' := Lib.hid hM'
          obtain ⟨gn, hgn⟩ : ∃ gn, w7.heap.size = gn := ⟨_, rfl⟩
          rw [hgn] at HN8 q0 q1 q2 q3 qf ⊢
          have HGN := Lib.hid hgn
          clear hb8 hb8' hM' n0 n1 n2 n3 hgn
          unfold Mk.val
          go_wp2_with fail
          go_roundw
          case rel =>
            have hge : w7.heap.size ≤ gn := by rw [HGN.out]; exact Nat.le_refl _
            have hb9 := (((HB8.out.setCell (p := ⟨gn, 0, none⟩) hge (.int .i64 (M'.kind : Int))).setCell (p := ⟨gn, 1, none⟩) hge (.string (str M'.text))).setCell (p := ⟨gn, 2, none⟩) hge (.int .i64 (M'.line : Int))).setCell (p := ⟨gn, 3, none⟩) hge (.int .i64 (M'.col : Int))
            refine ⟨acc ++ [M.text], rest.tail, gn, a6, s6, by rw [List.length_append]; rfl, rfl, ?_, HR7.out.below hb9, HF7.out.below hb9, ?_, HFR7.out.trans (Fr.of_below hb9 (by omega)), ?_, ?_, ?_⟩
            · rw [HMM'.out]; exact HN8.out.four_ _ _ _ _
            · rw [← List.append_assoc]; exact HE7.out.below hb9
            · rw [namesV_snoc, List.length_append]; exact own_below HO7.out hb9 (fun k hk => (own_lt HO7.out k hk).2)
            · rw [← HNS.out, HON.out]
            · have := HC.out
              have := Rd.hd_lt (ms := rest) (by rw [HMM.out, H1.out]; omega)
              simp only [List.length_append, List.length_cons, List.length_nil]; omega
          case measure =>
            have hge : w7.heap.size ≤ gn := by rw [HGN.out]; exact Nat.le_refl _
            have hb9 := (((HB8.out.setCell (p := ⟨gn, 0, none⟩) hge (.int .i64 (M'.kind : Int))).setCell (p := ⟨gn, 1, none⟩) hge (.string (str M'.text))).setCell (p := ⟨gn, 2, none⟩) hge (.int .i64 (M'.line : Int))).setCell (p := ⟨gn, 3, none⟩) hge (.int .i64 (M'.col : Int))
            have e1 := (HR7.out.below hb9).count
            have e2 := HR.out.count
            have e3 := Rd.hd_lt (ms := rest) (by rw [HMM.out, H1.out]; omega)
            rw [← e1, ← e2] at e3
            exact e3
      · have k1 : ((M.kind : Int) == 1) = false := by rw [beq_eq_false_iff_ne]; omega
        have k2 : (M.kind == 1) = false := by rw [beq_eq_false_iff_ne]; omega
        have hst := names_stop (lev := Rd.levelled d) (acc := acc) (ms := rest) (by rw [HMM.out]; exact h1)
        have HLV := Lib.hid (HLO.out acc rest (by rw [HRES.out, ← HNS.out]; exact hst))
        clear hst h1
        by_cases hacc : acc = []
        · have hlv := HLV.out
          rw [if_pos hacc] at hlv
          have HL := Lib.hid hlv
          subst hacc
          clear hlv
          simp only [List.length_nil]
          go_wp2_with fail
          go_ret
          refine ⟨?_, HFR.out⟩
          rw [HL.out]
          exact ⟨rfl, x, HR.out⟩
        · have hlv := HLV.out
          rw [if_neg hacc] at hlv
          have HL := Lib.hid hlv
          obtain ⟨K, hK⟩ : ∃ K, acc.length = K := ⟨_, rfl⟩
          have hk0 : ((K : Int) == 0) = false := by
            rw [beq_eq_false_iff_ne]
            intro e
            exact hacc (List.eq_nil_of_length_eq_zero (by omega))
          have hk1 : (K == 0) = false := by
            rw [beq_eq_false_iff_ne]
            intro e
            exact hacc (List.eq_nil_of_length_eq_zero (by omega))
          have HK := Lib.hid hK
          rw [hK]
          rw [HX.out, HN.out] at c3
          have hown := own_stay HOWN.out HF.out.lev
          rw [HX.out, HN.out] at hown
          have HW := Lib.hid hown
          have hsr : B ≤ wr.heap.size := by omega
          clear hlv hK hacc hown
          go_wp2_with (at_builtin; refine wpList_append_own2 _ rfl (.tmp 59) (.tmp 63) 33 rfl B 61 i1 _ 2 32 Tryd.underlying33 hi1 hy0 hy1 hy2 rfl (by decide) _ _ _ rfl (HW.out.alloc _) ⟨wr.heap.size, 0, none⟩ 1 1 (levCells (⟨a, acc⟩, .slice a5 K s5)) rfl rfl (cells_new _ _ _) (by simp [levCells, Value.oneCell']) (by unfold maxLen; omega) (by omega) (by simp; omega) ?_)
          intro v' w5 hown5 hg5 hn5
          obtain ⟨a7, s7, rfl⟩ := own_form hown5
          have hA5 := (HAT3.out.alloc (.cells #[.int .i64 (a : Int), .slice a5 K s5] 61)).grown hg5 (fun e => own_apart HW.out HAT3.out (by decide) e.symm)
          have hst1 : Stay 9 wr (wr.alloc (.cells #[.int .i64 (a : Int), .slice a5 K s5] 61)) := Stay.below ((Below.refl _ _).alloc (Nat.le_refl _) _)
          have hb1 := (HBO.out.stays HF.out.tok HF.out.pat HF.out.lev HF.out.rul HF.out.str HE.out).alloc (.cells #[.int .i64 (a : Int), .slice a5 K s5] 61)
          have hB5 := hb1.levels_ (l := ⟨a, acc⟩) (vn := .slice a5 K s5) HPL.out (fun p hp => ((HNM.out p hp).stay HF.out.str).stay hst1) (by rw [HX.out, HN.out]; exact HW.out.alloc _) (by rw [HN.out]; exact hown5) ⟨a5, s5, by simp only [HK.out], (by have := HO.out; rw [HK.out] at this; exact (Lie.own this).alloc _)⟩ (by rw [HX.out, HN.out]; exact hg5)
          have hL5 := (HLI3.out.alloc (.cells #[.int .i64 (a : Int), .slice a5 K s5] 61)).stay (Stay.own (HW.out.alloc _) (by decide) hg5)
          have hs9 : Small { d with levels := d.levels ++ [⟨a, acc⟩] } [] (Rd.levelled { d with levels := d.levels ++ [⟨a, acc⟩] }) rest := by
            obtain ⟨q1, q2, q3, q4, q5⟩ := HS.out
            refine ⟨q1, q2, ?_, q4, ?_⟩
            · have := HN.out
              have hn10' := HN10.out
              simp only [List.length_append, List.length_cons, List.length_nil]; omega
            · rw [levelled_snoc, List.length_append]; exact HC.out
          rw [← levelled_snoc d a acc] at hB5
          obtain ⟨hE, hF9⟩ := store_end (i := 3) (v' := .slice a7 (N + 1) s7) hA5 HR.out.len hcap3 hL5 hB5 (by simp [Tl.cells]) hB hs9
          have hF8 := ((HFR.out.alloc hsr (.cells #[.int .i64 (a : Int), .slice a5 K s5] 61)).trans (Fr.own (HW.out.alloc _) hg5 (Nat.le_refl _) (by simp; omega))).trans (hF9 x.m)
          have HEE := Lib.hid hE
          have HFF := Lib.hid hF8
          have q3 := hA5.cell 3
          have qf := hA5.frozen
          simp only [Tl.cells, List.getElem?_toArray, List.getElem?_cons_zero, List.getElem?_cons_succ] at q3
          clear hA5 hst1 hb1 hB5 hL5 hs9 hE hF9 hF8 hown5 hg5 hn5
          go_wp2_with fail
          go_ret
          refine ⟨?_, HFF.out⟩
          rw [HL.out]
          exact ⟨rfl, HEE.out⟩

theorem left_any (B g m : Nat) (d : Rd.Decls) (ms : List Mk) (w : World) (hr : RdAt w B g m d [] (Rd.levelled d) ms) (hne : ms ≠ []) :
    Calls Tryd.prog 89 #[.pointer (some ⟨g, 0, none⟩)] w fun e w' => Told B g m (Rd.level 1 d ms) e w' ∧ Fr B m w w' := by
  have HR := Lib.hid hr
  clear hr
  cases h : Rd.level 1 d ms with
  | bad c r =>
    have H := Lib.hid h
    clear h
    go_enter Tryd.func89, Tryd.ntmps89
    go_wp2_with fail
    refine (level_any 1 (by omega) B g m d ms w HR.out hne).mono ?_
    rw [H.out]
    rintro e w1 ⟨⟨rfl, h1⟩, h2⟩
    go_wp2_with fail
    go_ret
    exact ⟨⟨rfl, h1⟩, h2⟩
  | ok d' r =>
    have H := Lib.hid h
    clear h
    go_enter Tryd.func89, Tryd.ntmps89
    go_wp2_with fail
    refine (level_any 1 (by omega) B g m d ms w HR.out hne).mono ?_
    rw [H.out]
    rintro e w1 ⟨⟨rfl, h1⟩, h2⟩
    go_wp2_with fail
    go_ret
    exact ⟨⟨rfl, h1⟩, h2⟩

theorem right_any (B g m : Nat) (d : Rd.Decls) (ms : List Mk) (w : World) (hr : RdAt w B g m d [] (Rd.levelled d) ms) (hne : ms ≠ []) :
    Calls Tryd.prog 90 #[.pointer (some ⟨g, 0, none⟩)] w fun e w' => Told B g m (Rd.level 2 d ms) e w' ∧ Fr B m w w' := by
  have HR := Lib.hid hr
  clear hr
  cases h : Rd.level 2 d ms with
  | bad c r =>
    have H := Lib.hid h
    clear h
    go_enter Tryd.func90, Tryd.ntmps90
    go_wp2_with fail
    refine (level_any 2 (by omega) B g m d ms w HR.out hne).mono ?_
    rw [H.out]
    rintro e w1 ⟨⟨rfl, h1⟩, h2⟩
    go_wp2_with fail
    go_ret
    exact ⟨⟨rfl, h1⟩, h2⟩
  | ok d' r =>
    have H := Lib.hid h
    clear h
    go_enter Tryd.func90, Tryd.ntmps90
    go_wp2_with fail
    refine (level_any 2 (by omega) B g m d ms w HR.out hne).mono ?_
    rw [H.out]
    rintro e w1 ⟨⟨rfl, h1⟩, h2⟩
    go_wp2_with fail
    go_ret
    exact ⟨⟨rfl, h1⟩, h2⟩

theorem nonassoc_any (B g m : Nat) (d : Rd.Decls) (ms : List Mk) (w : World) (hr : RdAt w B g m d [] (Rd.levelled d) ms) (hne : ms ≠ []) :
    Calls Tryd.prog 91 #[.pointer (some ⟨g, 0, none⟩)] w fun e w' => Told B g m (Rd.level 3 d ms) e w' ∧ Fr B m w w' := by
  have HR := Lib.hid hr
  clear hr
  cases h : Rd.level 3 d ms with
  | bad c r =>
    have H := Lib.hid h
    clear h
    go_enter Tryd.func91, Tryd.ntmps91
    go_wp2_with fail
    refine (level_any 3 (by omega) B g m d ms w HR.out hne).mono ?_
    rw [H.out]
    rintro e w1 ⟨⟨rfl, h1⟩, h2⟩
    go_wp2_with fail
    go_ret
    exact ⟨⟨rfl, h1⟩, h2⟩
  | ok d' r =>
    have H := Lib.hid h
    clear h
    go_enter Tryd.func91, Tryd.ntmps91
    go_wp2_with fail
    refine (level_any 3 (by omega) B g m d ms w HR.out hne).mono ?_
    rw [H.out]
    rintro e w1 ⟨⟨rfl, h1⟩, h2⟩
    go_wp2_with fail
    go_ret
    exact ⟨⟨rfl, h1⟩, h2⟩

end Go.Proofs.YtgmihbfikggkjaaDoor
