/-
  The walk of a reading's alternative.
-/
import Derived.Test.YtgmihbfikggkjaaDoorRdF
namespace Go.Proofs.YtgmihbfikggkjaaDoor
open Go.RowKit
open Lx
set_option linter.unusedVariables false
set_option linter.unusedSimpArgs false
set_option maxRecDepth 100000

/-- What rules' reading tells. -/
def ToldR (B g m : Nat) (d : Rd.Decls) (lev : List Rd.Name) (res : Rd.Res (List Rd.Rule)) (e : Ending) (w' : World) : Prop :=
  match res with
  | .ok rs r => e = .returned (.int .i64 0) ∧ RdAt w' B g m d rs lev r
  | .bad c r => e = .returned (.int .i64 (c : Int)) ∧ ∃ x, Rest w' g x r
def Rd.Res.snoc (acc : List Rd.Rule) : Rd.Res Rd.Rule → Rd.Res (List Rd.Rule)
  | .ok x r => .ok (acc ++ [x]) r
  | .bad c r => .bad c r

theorem Body.rules_ {w w' : World} {B : Nat} {x : Tl} {d : Rd.Decls} {rs : List Rd.Rule} {lev : List Rd.Name} (h : Body w B x d rs lev) {v' vn : Value} {l : Rd.Rule} {ql : List (Rd.Rule × Value)} (hql : ql.map (·.1) = rs) (hn : ∀ p ∈ ql, Nms w p.2 p.1.right) (hown : w.ownsRow B 30 4 x.r rs.length (rulesV ql))
    (ho : w'.ownsRow B 30 4 v' (rs.length + 1) (rulesV ql ++ ruleCells (l, vn))) (hl : Nms w vn l.right) (hg : w.grownBy w' x.r.ownBlock) :
    Body w' B { x with r := v' } d (rs ++ [l]) lev := by
  have hm : HasSet w' x.m lev := h.set_.kept hg (fun e => by
    rcases hown.2 with ⟨e1, _⟩ | ⟨g, cap, cur, e1, _, hgg, _⟩
    · rw [e1] at e; simp [Value.ownBlock] at e
    · rw [e1] at e
      simp [Value.ownBlock] at e
      exact h.set_.ne (g := g) (t := _) (cs := cur) hgg e)
  have hs : Stay 9 w w' := Stay.own hown (by decide) hg
  refine ⟨own_stay h.tok (Stay.own hown (by decide) hg), own_stay h.skp (Stay.own hown (by decide) hg), ?_, h.st, ⟨ql ++ [(l, vn)], by simp [hql], by rw [rulesV_snoc, List.length_append]; exact ho, fun p hp => ?_⟩, hm, h.b, h.base⟩
  · obtain ⟨pl, e, h6, h7⟩ := h.lvs
    exact ⟨pl, e, own_stay h6 (Stay.own hown (by decide) hg), fun p hp => (h7 p hp).stay hs⟩
  · rcases List.mem_append.1 hp with hp | hp
    · exact (hn p hp).stay hs
    · simp at hp; subst hp; exact hl.stay hs

theorem rights_stop {acc : List Rd.Name} {ms : List Mk} (h : ¬ (Rd.hd ms).kind = 1) : Rd.rights ms acc = .ok acc ms := by
  cases ms with
  | nil => rfl
  | cons m r => rw [Rd.hd_cons] at h; unfold Rd.rights; rw [if_neg h]
theorem rights_full {acc : List Rd.Name} {ms : List Mk} (h : (Rd.hd ms).kind = 1) (h2 : acc.length = 8) : Rd.rights ms acc = .bad 3 ms := by
  cases ms with
  | nil => simp [Rd.hd_nil] at h
  | cons m r => rw [Rd.hd_cons] at h; unfold Rd.rights; rw [if_pos h, if_pos h2]
theorem rights_on {acc : List Rd.Name} {ms : List Mk} (h : (Rd.hd ms).kind = 1) (h2 : ¬ acc.length = 8) : Rd.rights ms acc = Rd.rights ms.tail (acc ++ [(Rd.hd ms).text]) := by
  cases ms with
  | nil => simp [Rd.hd_nil] at h
  | cons m r => rw [Rd.hd_cons] at h ⊢; conv => lhs; unfold Rd.rights
                rw [if_pos h, if_neg h2]; rfl
/-- What take tells where an action may stand. -/
theorem take_action (x : Rd.Rule) (hx : x.action = []) (ms : List Mk) : ∃ T b, takeV 9 ms = .tuple #[.string (str T), .bool b] ∧ Rd.action x ms = .ok { x with action := T } (takeR 9 ms) := by
  by_cases h : (Rd.hd ms).kind = 9
  · exact ⟨_, true, takeV_yes h, by unfold Rd.action; rw [if_pos h, takeR_yes h]⟩
  · exact ⟨[], false, takeV_no h, by unfold Rd.action; rw [if_neg h, takeR_no h, ← hx]⟩

def ruleBlock (left : Rd.Name) (a : Option Addr) (n s : Nat) (p c : Rd.Name) : Array Value := #[.string (str left), .slice a n s, .string (str p), .string (str c)]

-- From the action on, behind the world wB, in which the rule's block holds Right and Prec: $1: wB, $2: the marks there, $3: Prec

theorem rest_far' {w w' : World} {g g' : Nat} {t t' : TypeId} {cs cs' : Array Value} (h : At w g t cs) (hk : w.grownBy w' (some g')) (h' : At w g' t' cs') (hne : t ≠ t') : At w' g t cs :=
  h.grown hk (fun e => by
    injection e with e
    subst e
    unfold At at h h'
    rw [h] at h'
    injection h' with h'
    injection h' with _ h'
    exact hne h')

set_option maxHeartbeats 8000000 in
theorem alt_any (left : Rd.Name) (B g m : Nat) (d : Rd.Decls) (rs : List Rd.Rule) (lev : List Rd.Name) (ms : List Mk) (w : World) (hr : RdAt w B g m d rs lev ms) :
    Calls Tryd.prog 94 #[.pointer (some ⟨g, 0, none⟩), .string (str left)] w fun e w' => ToldR B g m d lev (Rd.Res.snoc rs (Rd.alt left rs.length ms)) e w' ∧ Fr B m w w' := by
  obtain ⟨x, hre, hbo, rfl⟩ := hr.ex
  have hB := hr.base
  have HS := Lib.hid hr.small
  obtain ⟨A, cap, hcap, hat, hli⟩ := hre.ex
  have hlt := hat.lt
  obtain ⟨pl, hpl, hown, hnm⟩ := hbo.rls
  obtain ⟨ao, so, hx⟩ := own_form hown
  have HRE := Lib.hid hre
  have HBO := Lib.hid hbo
  have HAT := Lib.hid hat
  have HX := Lib.hid hx
  have HPL := Lib.hid hpl
  have HOWN := Lib.hid hown
  have HNM := Lib.hid hnm
  have c5 := hat.cell 5
  simp only [Tl.cells, List.getElem?_toArray, List.getElem?_cons_zero, List.getElem?_cons_succ] at c5
  rw [hx] at c5
  clear hr hre hbo hat hli hx hpl hown hnm
  by_cases h10 : rs.length = 40
  · have e : Rd.Res.snoc rs (Rd.alt left rs.length ms) = .bad 3 ms := by unfold Rd.alt; rw [if_pos h10]; rfl
    rw [e]
    rw [h10] at c5
    clear e h10
    go_enter Tryd.func94, Tryd.ntmps94
    go_wp2_with fail
    go_ret
    exact ⟨⟨rfl, x, HRE.out⟩, Fr.refl _ _ _⟩
  · obtain ⟨N, hN⟩ : ∃ N, rs.length = N := ⟨_, rfl⟩
    have hn4 : ((N : Int) == 40) = false := by rw [beq_eq_false_iff_ne]; omega
    have hn5 : (N == 40) = false := by rw [beq_eq_false_iff_ne]; omega
    have hn10 : N ≤ 40 := by have := HS.out.2.2.2.1; omega
    have HN40 := Lib.hid (show N ≠ 40 by omega)
    have HLO := Lib.hid (show ∀ l r, Rd.rights ms [] = .ok l r → Rd.Res.snoc rs (Rd.alt left rs.length ms) = (match Rd.prec r with | .bad e r' => .bad e r' | .ok p r' => Rd.Res.snoc rs (Rd.action ⟨left, l, p, []⟩ r')) by
      intro l r h
      unfold Rd.alt
      rw [if_neg h10, h]
      simp only []
      cases Rd.prec r <;> rfl)
    have HLB := Lib.hid (show ∀ r, Rd.rights ms [] = .bad 3 r → Rd.Res.snoc rs (Rd.alt left rs.length ms) = .bad 3 r by
      intro r h
      unfold Rd.alt
      rw [if_neg h10, h]
      rfl)
    have HN := Lib.hid hN
    rw [hN] at c5
    clear hN h10
    obtain ⟨RES, hRES⟩ : ∃ RES, Rd.rights ms [] = RES := ⟨_, rfl⟩
    have HRES := Lib.hid hRES
    clear hRES
    obtain ⟨i0, hi, hz0, hz1, hz2⟩ := info_parts strinfo
    obtain ⟨i1, hi1, hy0, hy1, hy2⟩ := info_parts ruleinfo
    obtain ⟨M, hM⟩ : ∃ M, Rd.hd ms = M := ⟨_, rfl⟩
    have HM0 := Lib.hid hM
    clear hM
    go_enter Tryd.func94, Tryd.ntmps94
    go_wp2_with fail
    have hb0 : Below w.heap.size w (w.alloc (.cells (ruleBlock left none 0 0 [] []) 30)) := (Below.refl _ _).alloc (Nat.le_refl _) _
    refine (here_any g x ms _ (HRE.out.below hb0)).mono ?_
    rw [HM0.out]
    rintro e w2 ⟨rfl, hb2⟩
    have hb3 : Below w.heap.size w w2 := hb0.trans (hb2.mono (by simp))
    have HG2 := Lib.hid (((At.new w 30 (ruleBlock left none 0 0 [] [])).below hb2 (by simp)).alloc (.cells (markCells M) 55))
    have HR2 := Lib.hid ((HRE.out.below hb3).alloc (.cells (markCells M) 55))
    have HF2 := Lib.hid (((Five.refl w).below hb3).alloc (.cells (markCells M) 55))
    have HE2 := Lib.hid ((HBO.out.set_.below hb3).kept (World.grownBy_alloc w2 (.cells (markCells M) 55) none) (by simp))
    have HFR2 := Lib.hid ((Fr.of_below (m := x.m) hb3 (by omega) (B := B)).alloc (by have := hb3.size; omega) (.cells (markCells M) 55))
    have HM2 := Lib.hid (At.new w2 55 (markCells M))
    obtain ⟨gr, hgr⟩ : ∃ gr, w.heap.size = gr := ⟨_, rfl⟩
    have hgrB : B ≤ gr := by omega
    have hgrw : w.heap.size ≤ gr := by omega
    rw [hgr] at HG2 ⊢
    have HGR := Lib.hid hgr
    clear hb0 hb2 hb3 c5 hgr
    unfold Mk.val
    go_wp2_with fail
    go_loopw [6] (fun v6 wr => ∃ (acc : List Rd.Name) (rest : List Mk) (gm : Nat) (a5 : Option Addr) (s5 : Nat), v6 = .pointer (some ⟨gm, 0, none⟩) ∧ At wr gm 55 (markCells (Rd.hd rest)) ∧ At wr gr 30 (ruleBlock left a5 acc.length s5 [] []) ∧ Rest wr g x rest ∧ Five w wr ∧ HasSet wr x.m lev ∧ Fr B x.m w wr ∧
        wr.ownsRow w.heap.size 9 1 (.slice a5 acc.length s5) acc.length (namesV acc) ∧ Rd.rights rest acc = RES ∧ rest.length ≤ ms.length ∧ acc.length ≤ 8) (fun _ wr => restLen wr g)
    case atStart => exact ⟨[], ms, w2.heap.size, none, 0, rfl, by rw [HM0.out]; exact HM2.out, HG2.out, HR2.out, HF2.out, HE2.out, HFR2.out, World.ownsRow_nil _ _ _ _, HRES.out, Nat.le_refl _, by simp⟩
    case round =>
      obtain ⟨acc, rest, gm, a5, s5, rfl, hm, hg, hr, hf, he, hfr, hown, hnames, hle, h8⟩ := hrel
      have HM := Lib.hid hm
      have HG := Lib.hid hg
      have HR := Lib.hid hr
      have HF := Lib.hid hf
      have HE := Lib.hid he
      have HFR := Lib.hid hfr
      have HO := Lib.hid hown
      have HNS := Lib.hid hnames
      have HLE := Lib.hid hle
      obtain ⟨M, hM⟩ : ∃ M, Rd.hd rest = M := ⟨_, rfl⟩
      have HMM := Lib.hid hM
      rw [hM] at hm
      have m0 := hm.cell 0
      have m1 := hm.cell 1
      have m2 := hm.cell 2
      have m3 := hm.cell 3
      simp only [markCells, List.getElem?_toArray, List.getElem?_cons_zero, List.getElem?_cons_succ] at m0 m1 m2 m3
      have r1 := hg.cell 1
      have rf := hg.frozen
      simp only [ruleBlock, List.getElem?_toArray, List.getElem?_cons_zero, List.getElem?_cons_succ] at r1
      have hml := hm.lt
      have hgl := hg.lt
      have hsr : w.heap.size ≤ wr.heap.size := hfr.below.size
      clear hm hg hr hf he hfr hown hnames hle HM2 HR2 HF2 HE2 HFR2 HG2
      by_cases h1 : M.kind = 1
      · have k1 : ((M.kind : Int) == 1) = true := by rw [beq_iff_eq]; omega
        have k2 : (M.kind == 1) = true := by rw [beq_iff_eq]; omega
        have H1 := Lib.hid h1
        clear h1
        by_cases hacc : acc.length = 8
        · have HAC := Lib.hid hacc
          rw [hacc] at r1
          clear hacc
          go_wp2_with fail
          go_ret
          refine ⟨?_, HFR.out⟩
          rw [HLB.out rest (by rw [HRES.out, ← HNS.out]; exact rights_full (by rw [HMM.out]; exact H1.out) HAC.out)]
          exact ⟨rfl, x, HR.out⟩
        · obtain ⟨K, hK⟩ : ∃ K, acc.length = K := ⟨_, rfl⟩
          have a1 : ((K : Int) == 8) = false := by rw [beq_eq_false_iff_ne]; omega
          have a2 : (K == 8) = false := by rw [beq_eq_false_iff_ne]; omega
          have HK := Lib.hid hK
          have hon := rights_on (acc := acc) (ms := rest) (by rw [HMM.out]; exact H1.out) hacc
          rw [HMM.out] at hon
          have HON := Lib.hid hon
          have hrne : rest ≠ [] := ne_of_kind (k := 1) (by rw [HMM.out]; exact H1.out) (by omega)
          have hown := HO.out
          rw [hK] at hown r1 h8
          have HW := Lib.hid hown
          have H8 := Lib.hid (show K ≠ 8 by omega)
          have r1a : ∀ o, (wr.alloc o).cell? ⟨gr, 1, none⟩ = some (.slice a5 K s5) := fun o => by
            have := (HG.out.alloc o).cell 1
            simp only [ruleBlock, List.getElem?_toArray, List.getElem?_cons_zero, List.getElem?_cons_succ] at this
            rw [this, hK]
          clear hK hacc hon hown
          go_wp2_with (at_builtin; refine wpList_append_own2 _ rfl (.tmp 30) (.tmp 33) 28 rfl w.heap.size 9 i0 _ 1 16 Tryd.underlying28 hi hz0 hz1 hz2 rfl (by decide) _ _ _ rfl (HW.out.alloc _) ⟨wr.heap.size, 0, none⟩ 1 1 [.string (str M.text)] rfl rfl (cells_new _ _ _) (by simp [Value.oneCell']) (by unfold maxLen; omega) (by omega) (by simp; omega) ?_)
          intro v' w6 hown6 hg6 hn6
          obtain ⟨a6, s6, rfl⟩ := own_form hown6
          have hg6' : wr.grownBy w6 (Value.slice a5 K s5).ownBlock := grown_trans (World.grownBy_alloc _ _ _) hg6
          have hnew : ∀ k, (Value.slice a5 K s5).ownBlock = some k → w.heap.size ≤ k := fun k hk => (own_lt HW.out k hk).1
          have HM6 := Lib.hid (HM.out.grown hg6' (fun e => own_apart HW.out HM.out (by decide) e.symm))
          have HG6 := Lib.hid (HG.out.grown hg6' (fun e => own_apart HW.out HG.out (by decide) e.symm))
          have HR6 := Lib.hid (HR.out.stay (Stay.own HW.out (by decide) hg6') (Stay.own HW.out (by decide) hg6'))
          have HF6 := Lib.hid (HF.out.new hg6' hnew)
          have HE6 := Lib.hid (HE.out.kept hg6' (fun e => by
            rcases HW.out.2 with ⟨e1, _⟩ | ⟨g', cap', cur, e1, _, hgg, _⟩
            · rw [e1] at e; simp [Value.ownBlock] at e
            · rw [e1] at e
              simp [Value.ownBlock] at e
              exact HE.out.ne (g := g') (t := _) (cs := cur) hgg e))
          have HFR6 := Lib.hid (HFR.out.trans (Fr.own HW.out hg6' (by omega) (by omega)))
          have HO6 := Lib.hid hown6
          have r1b := HG6.out.cell 1
          have rfb := HG6.out.frozen
          simp only [ruleBlock, List.getElem?_toArray, List.getElem?_cons_zero, List.getElem?_cons_succ] at r1b
          rw [HK.out] at r1b
          clear hown6 hg6 hg6' hn6 hnew r1 r1a rf m0 m1 m2 m3
          go_wp2_with fail
          have hgs : w6.grownBy (w6.setCell ⟨gr, 1, none⟩ (.slice a6 (K + 1) s6)) (some gr) := grown_set (grown_refl _ _) 1 _
          have hGD : At (w6.setCell ⟨gr, 1, none⟩ (.slice a6 (K + 1) s6)) gr 30 (ruleBlock left a6 (K + 1) s6 [] []) := by
            have := HG6.out.set 1 (.slice a6 (K + 1) s6)
            simpa [ruleBlock] using this
          have HG7 := Lib.hid hGD
          have HR7 := Lib.hid (HR6.out.stay (Stay.far HG6.out (by decide) hgs) (Stay.far HG6.out (by decide) hgs))
          have HM7 := Lib.hid (rest_far' HM6.out hgs HG6.out (by decide))
          have HF7 := Lib.hid (HF6.out.new hgs (fun k e => by injection e with e; omega))
          have HE7 := Lib.hid (HE6.out.kept hgs (by simpa using HE6.out.ne HG6.out))
          have HFR7 := Lib.hid (HFR6.out.trans (Fr.at_ HG6.out hgs (by omega)))
          have HO7 := Lib.hid (own_stay HO6.out (Stay.far HG6.out (by decide) hgs))
          obtain ⟨w7, hw7⟩ : ∃ w7, w6.setCell ⟨gr, 1, none⟩ (.slice a6 (K + 1) s6) = w7 := ⟨_, rfl⟩
          rw [hw7] at HG7 HR7 HM7 HF7 HE7 HFR7 HO7 ⊢
          clear hw7 hgs hGD r1b rfb
          refine (next_any g x rest _ HR7.out hrne).mono ?_
          rintro e w8 ⟨rfl, hr8, hg8⟩
          obtain ⟨cs8, hat8⟩ := HR7.out.at_
          have HR8 := Lib.hid hr8
          have HM8 := Lib.hid (rest_far' HM7.out hg8 hat8 (by decide))
          have HG8 := Lib.hid (rest_far' HG7.out hg8 hat8 (by decide))
          have HF8 := Lib.hid (HF7.out.far hat8 hg8)
          have HE8 := Lib.hid (HE7.out.kept hg8 (by simpa using HE7.out.ne hat8))
          have HFR8 := Lib.hid (HFR7.out.trans (Fr.at_ hat8 hg8 hB))
          have HO8 := Lib.hid (own_stay HO7.out (Stay.far hat8 (by decide) hg8))
          have n0 := HM8.out.cell 0
          have n1 := HM8.out.cell 1
          have n2 := HM8.out.cell 2
          have n3 := HM8.out.cell 3
          rw [HMM.out] at n0 n1 n2 n3
          simp only [markCells, List.getElem?_toArray, List.getElem?_cons_zero, List.getElem?_cons_succ] at n0 n1 n2 n3
          have hs8 : w.heap.size ≤ w8.heap.size := HFR8.out.below.size
          clear hr8 hg8 hat8
          go_wp2_with fail
          refine (here_any g x rest.tail _ (HR8.out.alloc _)).mono ?_
          obtain ⟨M', hM'⟩ : ∃ M', Rd.hd rest.tail = M' := ⟨_, rfl⟩
          rw [hM']
          rintro e w9 ⟨rfl, hbw9⟩
          have HNw9 := Lib.hid ((At.new w8 55 (markCells M)).below hbw9 (by simp))
          have hbw9' : Below w8.heap.size w8 w9 := ((Below.refl _ _).alloc (Nat.le_refl _) _).trans (hbw9.mono (by simp))
          have q0 := HNw9.out.cell 0
          have q1 := HNw9.out.cell 1
          have q2 := HNw9.out.cell 2
          have q3 := HNw9.out.cell 3
          have qf := HNw9.out.frozen
          simp only [markCells, List.getElem?_toArray, List.getElem?_cons_zero, List.getElem?_cons_succ] at q0 q1 q2 q3
          have HBw9 := Lib.hid hbw9'
          have HMM' := Lib.hid hM'
          obtain ⟨gn, hgn⟩ : ∃ gn, w8.heap.size = gn := ⟨_, rfl⟩
          rw [hgn] at HNw9 q0 q1 q2 q3 qf ⊢
          have HGN := Lib.hid hgn
          clear hbw9 hbw9' hM' n0 n1 n2 n3 hgn
          unfold Mk.val
          go_wp2_with fail
          go_roundw
          case rel =>
            have hge : w8.heap.size ≤ gn := by rw [HGN.out]; exact Nat.le_refl _
            have hb9 := (((HBw9.out.setCell (p := ⟨gn, 0, none⟩) hge (.int .i64 (M'.kind : Int))).setCell (p := ⟨gn, 1, none⟩) hge (.string (str M'.text))).setCell (p := ⟨gn, 2, none⟩) hge (.int .i64 (M'.line : Int))).setCell (p := ⟨gn, 3, none⟩) hge (.int .i64 (M'.col : Int))
            refine ⟨acc ++ [M.text], rest.tail, gn, a6, s6, rfl, ?_, ?_, HR8.out.below hb9, HF8.out.below hb9, HE8.out.below hb9, HFR8.out.trans (Fr.of_below hb9 (by omega)), ?_, ?_, ?_, ?_⟩
            · rw [HMM'.out]; exact HNw9.out.four_ _ _ _ _
            · rw [List.length_append, HK.out]; exact HG8.out.below hb9 HG8.out.lt
            · rw [namesV_snoc, List.length_append, HK.out]; exact own_below HO8.out hb9 (fun k hk => (own_lt HO8.out k hk).2)
            · rw [← HNS.out, HON.out]
            · have := HLE.out
              simp only [List.length_tail]; omega
            · have := HK.out
              have := H8.out
              simp only [List.length_append, List.length_cons, List.length_nil]; omega
          case measure =>
            have hge : w8.heap.size ≤ gn := by rw [HGN.out]; exact Nat.le_refl _
            have hb9 := (((HBw9.out.setCell (p := ⟨gn, 0, none⟩) hge (.int .i64 (M'.kind : Int))).setCell (p := ⟨gn, 1, none⟩) hge (.string (str M'.text))).setCell (p := ⟨gn, 2, none⟩) hge (.int .i64 (M'.line : Int))).setCell (p := ⟨gn, 3, none⟩) hge (.int .i64 (M'.col : Int))
            have e1 := (HR8.out.below hb9).count
            have e2 := HR.out.count
            have e3 := Rd.hd_lt (ms := rest) (by rw [HMM.out, H1.out]; omega)
            rw [← e1, ← e2] at e3
            exact e3
      · have k1 : ((M.kind : Int) == 1) = false := by rw [beq_eq_false_iff_ne]; omega
        have k2 : (M.kind == 1) = false := by rw [beq_eq_false_iff_ne]; omega
        have HK1 := Lib.hid h1
        clear h1
        cases hwd : Rd.isWord [112, 114, 101, 99] M with
        | false =>
          have HPR := Lib.hid (show Rd.prec rest = .ok [] rest by unfold Rd.prec; rw [HMM.out, if_neg (by simp [hwd])])
          have HWD := Lib.hid hwd
          clear hwd
          go_wp2_with fail
          refine (word_is [112, 114, 101, 99] g x rest _ HR.out).mono ?_
          rw [HMM.out, HWD.out]
          rintro e wB ⟨rfl, hbB⟩
          have HRwB := Lib.hid (HR.out.below hbB)
          have HGwB := Lib.hid (HG.out.below hbB hgl)
          have HFwB := Lib.hid (HF.out.below hbB)
          have HEwB := Lib.hid (HE.out.below hbB)
          have HFRwB := Lib.hid (HFR.out.trans (Fr.of_below hbB (by omega)))
          have HOwB := Lib.hid (own_below HO.out hbB (fun k hk => (own_lt HO.out k hk).2))
          have HLEwB := Lib.hid HLE.out
          clear hbB m0 m1 m2 m3 r1 rf
          go_wp2_with fail
          obtain ⟨T, bb, hV, hAc⟩ := take_action ⟨left, acc, [], []⟩ rfl rest
          refine (take_any 9 (by omega) g x rest _ HRwB.out).mono ?_
          rw [hV]
          rintro e wC ⟨rfl, hrC, hgC⟩
          have HAC := Lib.hid hAc
          obtain ⟨csC, hatC⟩ := HRwB.out.at_
          have HRC := Lib.hid hrC
          have HGC := Lib.hid (rest_far' HGwB.out hgC hatC (by decide))
          have HFC := Lib.hid (HFwB.out.far hatC hgC)
          have HEC := Lib.hid (HEwB.out.kept hgC (by simpa using HEwB.out.ne hatC))
          have HFRC := Lib.hid (HFRwB.out.trans (Fr.at_ hatC hgC hB))
          have HOC := Lib.hid (own_stay HOwB.out (Stay.far hatC (by decide) hgC))
          have r3 := HGC.out.cell 3
          have rf := HGC.out.frozen
          simp only [ruleBlock, List.getElem?_toArray, List.getElem?_cons_zero, List.getElem?_cons_succ] at r3
          clear hV hAc hrC hgC hatC
          go_wp2_with fail
          have hgs : wC.grownBy (wC.setCell ⟨gr, 3, none⟩ (.string (str T))) (some gr) := grown_set (grown_refl _ _) 3 _
          have hGD : At (wC.setCell ⟨gr, 3, none⟩ (.string (str T))) gr 30 (ruleBlock left a5 acc.length s5 [] T) := by
            have := HGC.out.set 3 (.string (str T))
            simpa [ruleBlock] using this
          have HGD := Lib.hid hGD
          have HRD := Lib.hid (HRC.out.stay (Stay.far HGC.out (by decide) hgs) (Stay.far HGC.out (by decide) hgs))
          have HFD := Lib.hid (HFC.out.new hgs (fun k e => by injection e with e; omega))
          have HED := Lib.hid (HEC.out.kept hgs (by simpa using HEC.out.ne HGC.out))
          have HFRD := Lib.hid (HFRC.out.trans (Fr.at_ HGC.out hgs (by omega)))
          have HOD := Lib.hid (own_stay HOC.out (Stay.far HGC.out (by decide) hgs))
          obtain ⟨wD, hwD⟩ : ∃ wD, wC.setCell ⟨gr, 3, none⟩ (.string (str T)) = wD := ⟨_, rfl⟩
          rw [hwD] at HGD HRD HFD HED HFRD HOD ⊢
          clear hwD hgs hGD r3 rf
          obtain ⟨AD, capD, hcapD, hatD, hliD⟩ := HRD.out.ex
          have HATD := Lib.hid hatD
          have HLID := Lib.hid hliD
          have hown := own_stay HOWN.out HFD.out.rul
          rw [HX.out, HN.out] at hown
          have HW := Lib.hid hown
          have c0 := hatD.cell 0
          have c1 := hatD.cell 1
          have c2 := hatD.cell 2
          have c3 := hatD.cell 3
          have c4 := hatD.cell 4
          have c5 := hatD.cell 5
          have c6 := hatD.cell 6
          have c7 := hatD.cell 7
          have cf := hatD.frozen
          simp only [Tl.cells, List.getElem?_toArray, List.getElem?_cons_zero, List.getElem?_cons_succ] at c0 c1 c2 c3 c4 c5 c6 c7
          rw [HX.out, HN.out] at c5
          have c5a : ∀ o, (wD.alloc o).cell? ⟨g, 5, none⟩ = some (.slice ao N so) := fun o => by
            have := (hatD.alloc o).cell 5
            simp only [Tl.cells, List.getElem?_toArray, List.getElem?_cons_zero, List.getElem?_cons_succ] at this
            rw [this, HX.out, HN.out]
          have r0 := HGD.out.cell 0
          have r1 := HGD.out.cell 1
          have r2 := HGD.out.cell 2
          have r3 := HGD.out.cell 3
          simp only [ruleBlock, List.getElem?_toArray, List.getElem?_cons_zero, List.getElem?_cons_succ] at r0 r1 r2 r3
          have hsD : B ≤ wD.heap.size := by have := HATD.out.lt; omega
          obtain ⟨KK, hKK⟩ : ∃ KK, acc.length = KK := ⟨_, rfl⟩
          rw [hKK] at r1
          have HKK := Lib.hid hKK
          clear hown hatD hliD hKK
          go_region_law (refine step_append_own2 rfl _ _ 26 rfl B 30 i1 _ 4 72 Tryd.underlying26 hi1 hy0 hy1 hy2 rfl (by decide) _ _ _ rfl (HW.out.drew.alloc _) ⟨wD.heap.size, 0, none⟩ 1 1 (ruleCells (⟨left, acc, [], T⟩, .slice a5 KK s5)) rfl rfl (cells_new _ _ _) (by simp [ruleCells, Value.oneCell']) (by unfold maxLen; omega) (by omega) (by simp; omega) ?_; intro v' w8 hown8 hg8 hn8; obtain ⟨a8, s8, rfl⟩ := own_form hown8; have hA8 := At.grown (HATD.out.drew.alloc _) hg8 (fun e => own_apart HW.out HATD.out (by decide) e.symm); have q5 := hA8.cell 5; have qf := hA8.frozen; simp only [Tl.cells, List.getElem?_toArray, List.getElem?_cons_zero, List.getElem?_cons_succ] at q5)
          all_goals
            have hg9 : (wD.alloc (.cells #[.string (str left), .slice a5 KK s5, .string (str []), .string (str T)] 30)).drew.grownBy w8 (Value.slice ao N so).ownBlock := hg8
            have ho7 := HW.out.alloc (.cells #[.string (str left), .slice a5 KK s5, .string (str []), .string (str T)] 30)
            have hb1 : Below wD.heap.size wD (wD.alloc (.cells #[.string (str left), .slice a5 KK s5, .string (str []), .string (str T)] 30)).drew := below_drew ((Below.refl _ _).alloc (Nat.le_refl _) _)
            have hF8 := (HFRD.out.trans (Fr.of_below hb1 hsD)).trans (Fr.own (own_drewN ho7 1) hg9 (Nat.le_refl _) (by simp; omega))
            have hbo := (HBO.out.stays HFD.out.tok HFD.out.pat HFD.out.lev HFD.out.rul HFD.out.str HED.out).below hb1
            have hB8 := hbo.rules_ (l := ⟨left, acc, [], T⟩) (vn := .slice a5 KK s5) HPL.out (fun p hp => ((HNM.out p hp).stay HFD.out.str).stay (Stay.below hb1)) (by rw [HX.out, HN.out]; exact own_drewN ho7 1) (by rw [HN.out]; exact hown8) ⟨a5, s5, by simp only [HKK.out], (by have := HOD.out; rw [HKK.out] at this; exact (Lie.own this).below hb1)⟩ (by rw [HX.out, HN.out]; exact hg9)
            have hL8 := (HLID.out.below hb1).stay (Stay.own (own_drewN ho7 1) (by decide) hg9)
            have hs9 : Small d (rs ++ [⟨left, acc, [], T⟩]) lev (takeR 9 rest) := by
              obtain ⟨q1, q2, q3, q4, q5⟩ := HS.out
              have hl2 := HLEwB.out
              have hl3 : (takeR 9 rest).length ≤ (rest).length := by unfold takeR; split <;> simp
              refine ⟨q1, q2, q3, ?_, by omega⟩
              have := HN.out
              have := HN40.out
              simp only [List.length_append, List.length_cons, List.length_nil]; omega
            obtain ⟨hE, hF⟩ := store_end (i := 5) (v' := .slice a8 (N + 1) s8) hA8 HRD.out.len hcapD hL8 hB8 (by simp [Tl.cells]) hB hs9
            have HE9 := Lib.hid hE
            have HF9 := Lib.hid (hF8.trans (hF _))
            clear hg9 ho7 hF8 hB8 hL8 hE hF hg8 hn8 hown8 hA8 hbo hb1 hs9
            go_wp2_with fail
            go_ret
            refine ⟨?_, HF9.out⟩
            rw [HLO.out acc rest (by rw [HRES.out, ← HNS.out]; exact rights_stop (by rw [HMM.out]; exact HK1.out)), HPR.out]
            simp only []
            rw [HAC.out]
            exact ⟨rfl, HE9.out⟩
        | true =>
          have hrne : rest ≠ [] := by
            rintro rfl
            rw [Rd.hd_nil] at hM
            subst hM
            simp [Rd.isWord] at hwd
          have HWD := Lib.hid hwd
          by_cases hp1 : (Rd.hd rest.tail).kind = 1
          · have HPR := Lib.hid (show Rd.prec rest = .ok (Rd.hd rest.tail).text rest.tail.tail by unfold Rd.prec; rw [HMM.out, if_pos hwd, if_pos hp1])
            have V1 := Lib.hid (takeV_yes hp1)
            have R1 := Lib.hid (takeR_yes hp1)
            clear hwd hp1
            generalize (Rd.hd rest.tail).text = PT at HPR V1
            go_wp2_with fail
            refine (word_is [112, 114, 101, 99] g x rest _ HR.out).mono ?_
            rw [HMM.out, HWD.out]
            rintro e wA ⟨rfl, hbA⟩
            have HRA := Lib.hid (HR.out.below hbA)
            have HGA := Lib.hid (HG.out.below hbA hgl)
            have HFA := Lib.hid (HF.out.below hbA)
            have HEA := Lib.hid (HE.out.below hbA)
            have HFRA := Lib.hid (HFR.out.trans (Fr.of_below hbA (by omega)))
            have HOA := Lib.hid (own_below HO.out hbA (fun k hk => (own_lt HO.out k hk).2))
            clear hbA m0 m1 m2 m3 r1 rf
            go_wp2_with fail
            refine (next_any g x rest _ HRA.out hrne).mono ?_
            rintro e wA2 ⟨rfl, hrA2, hgA2⟩
            have HRA2 := Lib.hid hrA2
            have HGA2 := Lib.hid hgA2
            clear hrA2 hgA2
            go_wp2_with fail
            refine (take_any 1 (by omega) g x rest.tail _ HRA2.out).mono ?_
            rw [V1.out, R1.out]
            rintro e wA3 ⟨rfl, hrA3, hgA3⟩
            have hgg := grown_trans HGA2.out hgA3
            obtain ⟨csA, hatA⟩ := HRA.out.at_
            have HRA3 := Lib.hid hrA3
            have HGA3 := Lib.hid (rest_far' HGA.out hgg hatA (by decide))
            have HFA3 := Lib.hid (HFA.out.far hatA hgg)
            have HEA3 := Lib.hid (HEA.out.kept hgg (by simpa using HEA.out.ne hatA))
            have HFRA3 := Lib.hid (HFRA.out.trans (Fr.at_ hatA hgg hB))
            have HOA3 := Lib.hid (own_stay HOA.out (Stay.far hatA (by decide) hgg))
            have r2 := HGA3.out.cell 2
            have rf := HGA3.out.frozen
            simp only [ruleBlock, List.getElem?_toArray, List.getElem?_cons_zero, List.getElem?_cons_succ] at r2
            clear hrA3 hgA3 hgg hatA
            go_wp2_with fail
            have hgs : wA3.grownBy (wA3.setCell ⟨gr, 2, none⟩ (.string (str PT))) (some gr) := grown_set (grown_refl _ _) 2 _
            have hGD : At (wA3.setCell ⟨gr, 2, none⟩ (.string (str PT))) gr 30 (ruleBlock left a5 acc.length s5 PT []) := by
              have := HGA3.out.set 2 (.string (str PT))
              simpa [ruleBlock] using this
            have HGwB := Lib.hid hGD
            have HRwB := Lib.hid (HRA3.out.stay (Stay.far HGA3.out (by decide) hgs) (Stay.far HGA3.out (by decide) hgs))
            have HFwB := Lib.hid (HFA3.out.new hgs (fun k e => by injection e with e; omega))
            have HEwB := Lib.hid (HEA3.out.kept hgs (by simpa using HEA3.out.ne HGA3.out))
            have HFRwB := Lib.hid (HFRA3.out.trans (Fr.at_ HGA3.out hgs (by omega)))
            have HOwB := Lib.hid (own_stay HOA3.out (Stay.far HGA3.out (by decide) hgs))
            have HLEwB := Lib.hid (show rest.tail.tail.length ≤ ms.length by have := HLE.out; simp; omega)
            obtain ⟨wB, hwB⟩ : ∃ wB, wA3.setCell ⟨gr, 2, none⟩ (.string (str PT)) = wB := ⟨_, rfl⟩
            rw [hwB] at HGwB HRwB HFwB HEwB HFRwB HOwB ⊢
            clear hwB hgs hGD r2 rf
            obtain ⟨T, bb, hV, hAc⟩ := take_action ⟨left, acc, PT, []⟩ rfl rest.tail.tail
            refine (take_any 9 (by omega) g x rest.tail.tail _ HRwB.out).mono ?_
            rw [hV]
            rintro e wC ⟨rfl, hrC, hgC⟩
            have HAC := Lib.hid hAc
            obtain ⟨csC, hatC⟩ := HRwB.out.at_
            have HRC := Lib.hid hrC
            have HGC := Lib.hid (rest_far' HGwB.out hgC hatC (by decide))
            have HFC := Lib.hid (HFwB.out.far hatC hgC)
            have HEC := Lib.hid (HEwB.out.kept hgC (by simpa using HEwB.out.ne hatC))
            have HFRC := Lib.hid (HFRwB.out.trans (Fr.at_ hatC hgC hB))
            have HOC := Lib.hid (own_stay HOwB.out (Stay.far hatC (by decide) hgC))
            have r3 := HGC.out.cell 3
            have rf := HGC.out.frozen
            simp only [ruleBlock, List.getElem?_toArray, List.getElem?_cons_zero, List.getElem?_cons_succ] at r3
            clear hV hAc hrC hgC hatC
            go_wp2_with fail
            have hgs : wC.grownBy (wC.setCell ⟨gr, 3, none⟩ (.string (str T))) (some gr) := grown_set (grown_refl _ _) 3 _
            have hGD : At (wC.setCell ⟨gr, 3, none⟩ (.string (str T))) gr 30 (ruleBlock left a5 acc.length s5 PT T) := by
              have := HGC.out.set 3 (.string (str T))
              simpa [ruleBlock] using this
            have HGD := Lib.hid hGD
            have HRD := Lib.hid (HRC.out.stay (Stay.far HGC.out (by decide) hgs) (Stay.far HGC.out (by decide) hgs))
            have HFD := Lib.hid (HFC.out.new hgs (fun k e => by injection e with e; omega))
            have HED := Lib.hid (HEC.out.kept hgs (by simpa using HEC.out.ne HGC.out))
            have HFRD := Lib.hid (HFRC.out.trans (Fr.at_ HGC.out hgs (by omega)))
            have HOD := Lib.hid (own_stay HOC.out (Stay.far HGC.out (by decide) hgs))
            obtain ⟨wD, hwD⟩ : ∃ wD, wC.setCell ⟨gr, 3, none⟩ (.string (str T)) = wD := ⟨_, rfl⟩
            rw [hwD] at HGD HRD HFD HED HFRD HOD ⊢
            clear hwD hgs hGD r3 rf
            obtain ⟨AD, capD, hcapD, hatD, hliD⟩ := HRD.out.ex
            have HATD := Lib.hid hatD
            have HLID := Lib.hid hliD
            have hown := own_stay HOWN.out HFD.out.rul
            rw [HX.out, HN.out] at hown
            have HW := Lib.hid hown
            have c0 := hatD.cell 0
            have c1 := hatD.cell 1
            have c2 := hatD.cell 2
            have c3 := hatD.cell 3
            have c4 := hatD.cell 4
            have c5 := hatD.cell 5
            have c6 := hatD.cell 6
            have c7 := hatD.cell 7
            have cf := hatD.frozen
            simp only [Tl.cells, List.getElem?_toArray, List.getElem?_cons_zero, List.getElem?_cons_succ] at c0 c1 c2 c3 c4 c5 c6 c7
            rw [HX.out, HN.out] at c5
            have c5a : ∀ o, (wD.alloc o).cell? ⟨g, 5, none⟩ = some (.slice ao N so) := fun o => by
              have := (hatD.alloc o).cell 5
              simp only [Tl.cells, List.getElem?_toArray, List.getElem?_cons_zero, List.getElem?_cons_succ] at this
              rw [this, HX.out, HN.out]
            have r0 := HGD.out.cell 0
            have r1 := HGD.out.cell 1
            have r2 := HGD.out.cell 2
            have r3 := HGD.out.cell 3
            simp only [ruleBlock, List.getElem?_toArray, List.getElem?_cons_zero, List.getElem?_cons_succ] at r0 r1 r2 r3
            have hsD : B ≤ wD.heap.size := by have := HATD.out.lt; omega
            obtain ⟨KK, hKK⟩ : ∃ KK, acc.length = KK := ⟨_, rfl⟩
            rw [hKK] at r1
            have HKK := Lib.hid hKK
            clear hown hatD hliD hKK
            go_region_law (refine step_append_own2 rfl _ _ 26 rfl B 30 i1 _ 4 72 Tryd.underlying26 hi1 hy0 hy1 hy2 rfl (by decide) _ _ _ rfl (HW.out.drew.alloc _) ⟨wD.heap.size, 0, none⟩ 1 1 (ruleCells (⟨left, acc, PT, T⟩, .slice a5 KK s5)) rfl rfl (cells_new _ _ _) (by simp [ruleCells, Value.oneCell']) (by unfold maxLen; omega) (by omega) (by simp; omega) ?_; intro v' w8 hown8 hg8 hn8; obtain ⟨a8, s8, rfl⟩ := own_form hown8; have hA8 := At.grown (HATD.out.drew.alloc _) hg8 (fun e => own_apart HW.out HATD.out (by decide) e.symm); have q5 := hA8.cell 5; have qf := hA8.frozen; simp only [Tl.cells, List.getElem?_toArray, List.getElem?_cons_zero, List.getElem?_cons_succ] at q5)
            all_goals
              have hg9 : (wD.alloc (.cells #[.string (str left), .slice a5 KK s5, .string (str PT), .string (str T)] 30)).drew.grownBy w8 (Value.slice ao N so).ownBlock := hg8
              have ho7 := HW.out.alloc (.cells #[.string (str left), .slice a5 KK s5, .string (str PT), .string (str T)] 30)
              have hb1 : Below wD.heap.size wD (wD.alloc (.cells #[.string (str left), .slice a5 KK s5, .string (str PT), .string (str T)] 30)).drew := below_drew ((Below.refl _ _).alloc (Nat.le_refl _) _)
              have hF8 := (HFRD.out.trans (Fr.of_below hb1 hsD)).trans (Fr.own (own_drewN ho7 1) hg9 (Nat.le_refl _) (by simp; omega))
              have hbo := (HBO.out.stays HFD.out.tok HFD.out.pat HFD.out.lev HFD.out.rul HFD.out.str HED.out).below hb1
              have hB8 := hbo.rules_ (l := ⟨left, acc, PT, T⟩) (vn := .slice a5 KK s5) HPL.out (fun p hp => ((HNM.out p hp).stay HFD.out.str).stay (Stay.below hb1)) (by rw [HX.out, HN.out]; exact own_drewN ho7 1) (by rw [HN.out]; exact hown8) ⟨a5, s5, by simp only [HKK.out], (by have := HOD.out; rw [HKK.out] at this; exact (Lie.own this).below hb1)⟩ (by rw [HX.out, HN.out]; exact hg9)
              have hL8 := (HLID.out.below hb1).stay (Stay.own (own_drewN ho7 1) (by decide) hg9)
              have hs9 : Small d (rs ++ [⟨left, acc, PT, T⟩]) lev (takeR 9 rest.tail.tail) := by
                obtain ⟨q1, q2, q3, q4, q5⟩ := HS.out
                have hl2 := HLEwB.out
                have hl3 : (takeR 9 rest.tail.tail).length ≤ (rest.tail.tail).length := by unfold takeR; split <;> simp
                refine ⟨q1, q2, q3, ?_, by omega⟩
                have := HN.out
                have := HN40.out
                simp only [List.length_append, List.length_cons, List.length_nil]; omega
              obtain ⟨hE, hF⟩ := store_end (i := 5) (v' := .slice a8 (N + 1) s8) hA8 HRD.out.len hcapD hL8 hB8 (by simp [Tl.cells]) hB hs9
              have HE9 := Lib.hid hE
              have HF9 := Lib.hid (hF8.trans (hF _))
              clear hg9 ho7 hF8 hB8 hL8 hE hF hg8 hn8 hown8 hA8 hbo hb1 hs9
              go_wp2_with fail
              go_ret
              refine ⟨?_, HF9.out⟩
              rw [HLO.out acc rest (by rw [HRES.out, ← HNS.out]; exact rights_stop (by rw [HMM.out]; exact HK1.out)), HPR.out]
              simp only []
              rw [HAC.out]
              exact ⟨rfl, HE9.out⟩
          · have HPR := Lib.hid (show Rd.prec rest = .bad 14 rest.tail by unfold Rd.prec; rw [HMM.out, if_pos hwd, if_neg hp1])
            have V1 := Lib.hid (takeV_no hp1)
            have R1 := Lib.hid (takeR_no hp1)
            clear hwd hp1
            go_wp2_with fail
            refine (word_is [112, 114, 101, 99] g x rest _ HR.out).mono ?_
            rw [HMM.out, HWD.out]
            rintro e wA ⟨rfl, hbA⟩
            have HRA := Lib.hid (HR.out.below hbA)
            have HFRA := Lib.hid (HFR.out.trans (Fr.of_below hbA (by omega)))
            clear hbA m0 m1 m2 m3 r1 rf
            go_wp2_with fail
            refine (next_any g x rest _ HRA.out hrne).mono ?_
            rintro e wA2 ⟨rfl, hrA2, hgA2⟩
            have HRA2 := Lib.hid hrA2
            have HGA2 := Lib.hid hgA2
            clear hrA2 hgA2
            go_wp2_with fail
            refine (take_any 1 (by omega) g x rest.tail _ HRA2.out).mono ?_
            rw [V1.out, R1.out]
            rintro e wA3 ⟨rfl, hrA3, hgA3⟩
            obtain ⟨csA, hatA⟩ := HRA.out.at_
            have HRA3 := Lib.hid hrA3
            have HFRA3 := Lib.hid (HFRA.out.trans (Fr.at_ hatA (grown_trans HGA2.out hgA3) hB))
            clear hrA3 hgA3 hatA
            go_wp2_with fail
            go_ret
            refine ⟨?_, HFRA3.out⟩
            rw [HLO.out acc rest (by rw [HRES.out, ← HNS.out]; exact rights_stop (by rw [HMM.out]; exact HK1.out)), HPR.out]
            exact ⟨rfl, x, HRA3.out⟩

end Go.Proofs.YtgmihbfikggkjaaDoor
