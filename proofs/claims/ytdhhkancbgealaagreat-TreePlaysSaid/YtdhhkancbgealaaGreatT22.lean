import Derived.Test.YtdhhkancbgealaaGreatT21
import Derived.Test.YtdhhkancbgealaaGreatT17
section
namespace Go.Proofs.YtdhhkancbgealaaGreat
open Go.RowKit Go.ChangeShapes Go.WideShapes Go.ChangeAt
open Lx
set_option linter.unusedVariables false
set_option linter.unusedSimpArgs false
set_option maxRecDepth 100000
def u8V (l : List Nat) : List Value := l.map fun (x : Nat) => .int .u8 ((x : Nat) : Int)
theorem u8V_get {l : List Nat} {k x : Nat} (h : l[k]? = some x) : (u8V l)[k]? = some (.int .u8 (x : Int)) := by simp [u8V, h]
theorem u8_wf9 {n : Int} (h : (Lit.int .u8 n).wf = true) : 0 ≤ n ∧ n ≤ 255 := by
  simpa [Lit.wf, IntKind.min, IntKind.max, IntKind.signed, IntKind.bits] using h
def U8C (w : World) (B : Nat) (v : Value) (l : List Nat) : Prop := ∃ A cap, v = .slice A l.length cap ∧ Cl w B A (u8V l)
theorem U8C.below {w w' : World} {B : Nat} {v : Value} {l : List Nat} (h : U8C w B v l) (hb : Below B w w') : U8C w' B v l := by
  obtain ⟨A, cap, h1, h2⟩ := h; exact ⟨A, cap, h1, h2.below hb⟩
theorem U8C.mono {w : World} {B B' : Nat} {v : Value} {l : List Nat} (h : U8C w B v l) (hB : B ≤ B') : U8C w B' v l := by
  obtain ⟨A, cap, h1, h2⟩ := h; exact ⟨A, cap, h1, h2.mono hB⟩
structure SmallC (w : World) (B : Nat) (v : Value) (s : Sm.S) : Prop where
  ex : ∃ A1 c1 A2 c2 A3 c3 A4 c4 A5 c5, ∃ ql : List (List Nat × Value), v = .agg #[.int .u8 (s.tokens : Int), .int .u8 (s.vars : Int), .slice A1 s.lefts.length c1, .slice A2 s.rights.length c2, .slice A3 s.precs.length c3, .slice A4 s.assocs.length c4, .slice A5 s.levels.length c5] ∧
    Cl w B A1 (u8V s.lefts) ∧ Cl w B A2 (ql.map (·.2)) ∧ ql.map (·.1) = s.rights ∧ (∀ p ∈ ql, U8C w B p.2 p.1) ∧ Cl w B A3 (u8V s.precs) ∧ Cl w B A4 (u8V s.assocs) ∧ Cl w B A5 (u8V s.levels)
theorem SmallC.below {w w' : World} {B : Nat} {v : Value} {s : Sm.S} (h : SmallC w B v s) (hb : Below B w w') : SmallC w' B v s := by
  obtain ⟨A1, c1, A2, c2, A3, c3, A4, c4, A5, c5, ql, h0, h1, h2, h3, h4, h5, h6, h7⟩ := h.ex
  exact ⟨A1, c1, A2, c2, A3, c3, A4, c4, A5, c5, ql, h0, h1.below hb, h2.below hb, h3, fun p hp => (h4 p hp).below hb, h5.below hb, h6.below hb, h7.below hb⟩
theorem SmallC.mono {w : World} {B B' : Nat} {v : Value} {s : Sm.S} (h : SmallC w B v s) (hB : B ≤ B') : SmallC w B' v s := by
  obtain ⟨A1, c1, A2, c2, A3, c3, A4, c4, A5, c5, ql, h0, h1, h2, h3, h4, h5, h6, h7⟩ := h.ex
  exact ⟨A1, c1, A2, c2, A3, c3, A4, c4, A5, c5, ql, h0, h1.mono hB, h2.mono hB, h3, fun p hp => (h4 p hp).mono hB, h5.mono hB, h6.mono hB, h7.mono hB⟩
structure SmSz (s : Sm.S) : Prop where
  tokens : s.tokens ≤ 255
  vars : s.vars ≤ 255
  n1 : s.lefts.length ≤ 140737488355328
  n2 : s.rights.length ≤ 140737488355328
  n3 : s.precs.length ≤ 140737488355328
  n4 : s.assocs.length ≤ 140737488355328
  n5 : s.levels.length ≤ 140737488355328
  left : ∀ x ∈ s.lefts, x ≤ 255
  right : ∀ l ∈ s.rights, l.length ≤ 140737488355328 ∧ ∀ x ∈ l, x ≤ 255
  prec : ∀ x ∈ s.precs, x ≤ 255
  assoc : ∀ x ∈ s.assocs, x ≤ 255
  level : ∀ x ∈ s.levels, x ≤ 255
theorem list7 {α : Type} {l : List α} (h : l.length = 7) : ∃ a b c d e f g, l = [a, b, c, d, e, f, g] := by
  match l, h with
  | [a, b, c, d, e, f, g], _ => exact ⟨a, b, c, d, e, f, g, rfl⟩
section
variable {H : Type} {enc : TypeId × Value → H} {W : World}
theorem cu1 : Tryz.prog.cellsOf 5 = 1 := by kernel_rfl
theorem cu2 : Tryz.prog.cellsOf 22 = 1 := by kernel_rfl
theorem cu3 : Tryz.prog.cellsOf 23 = 1 := by kernel_rfl
theorem cu7 : Tryz.prog.cellsOf 25 = 7 := by kernel_rfl
theorem byte_read {k : Nat} {cs : List Value} {x : DataW H × List MemPlace} (h : DataW.trod enc Tryz.prog W 0 (fun _ => true) true k 5 cs = some x) : ∃ n : Nat, cs = [.int .u8 (n : Int)] ∧ n ≤ 255 := by
  obtain ⟨i, rfl, _, hw⟩ := DataW.trod_int Tryz.underlying5 h
  have := u8_wf9 hw
  exact ⟨i.toNat, by congr 2; omega, by omega⟩
theorem bytes_read {k : Nat} {cs : List Value} {x : DataW H × List MemPlace} (h : DataW.trod enc Tryz.prog W 0 (fun _ => true) true k 22 cs = some x) (hf : Fits x.1 22) :
    ∃ v, ∃ l : List Nat, cs = [v] ∧ U8C W W.heap.size v l ∧ l.length ≤ reachBytes ∧ ∀ n ∈ l, n ≤ 255 := by
  obtain ⟨A, c, l, rfl, h1, h2, h3⟩ := slice_read (α := Nat) 0 (fun (n : Nat) => [.int .u8 ((n : Nat) : Int)]) (fun n => n ≤ 255) Tryz.underlying22 cu1 (by decide) (Nat.le_of_ble_eq_true (by kernel_rfl)) (fun _ => rfl) (fun k cs x h hf => byte_read h) h hf
  exact ⟨_, l, rfl, ⟨A, c, rfl, by rw [flat_ones] at h1; exact h1⟩, h3, h2⟩
theorem open_small {base : Nat} {v : Value} {d : DataW H} {p : List MemPlace} (hv : Value.okWide Tryz.prog W .any base 25 v) (h : DataW.Trod enc Tryz.prog W 0 (fun _ => true) true 25 v d p) (hf : Fits d 25) :
    ∃ s : Sm.S, SmallC W W.heap.size v s ∧ SmSz s := by
  obtain ⟨cs, rfl, hcs⟩ := okWide_struct Tryz.underlying25 hv
  obtain ⟨fuel, ht⟩ := h
  obtain ⟨xs, n, _, hx, hl, hlen, hfs⟩ := DataW.trod_struct Tryz.underlying25 ht
  simp only [Prod.mk.injEq] at hx
  obtain ⟨rfl, rfl⟩ := hx
  rw [cu7] at hl
  obtain ⟨a, b, c, d, e, f, g, hcv⟩ := list7 hl
  obtain ⟨y0, y1, y2, y3, y4, y5, y6, rfl⟩ := list7 hlen
  rw [hcv] at hfs
  have hce : cs = #[a, b, c, d, e, f, g] := by
    have : cs.toList = [a, b, c, d, e, f, g] := by simpa [Value.cells] using hcv
    exact Array.toList_inj.1 (by simpa using this)
  subst hce
  have h0 : DataW.trod enc Tryz.prog W 0 (fun _ => true) true n 5 (([a, b, c, d, e, f, g].drop 0).take (Tryz.prog.cellsOf 5)) = some y0 := hfs 0 _ rfl
  have h1 : DataW.trod enc Tryz.prog W 0 (fun _ => true) true n 5 (([a, b, c, d, e, f, g].drop 1).take (Tryz.prog.cellsOf 5)) = some y1 := hfs 1 _ rfl
  have h2 : DataW.trod enc Tryz.prog W 0 (fun _ => true) true n 22 (([a, b, c, d, e, f, g].drop 2).take (Tryz.prog.cellsOf 22)) = some y2 := hfs 2 _ rfl
  have h3 : DataW.trod enc Tryz.prog W 0 (fun _ => true) true n 23 (([a, b, c, d, e, f, g].drop 3).take (Tryz.prog.cellsOf 23)) = some y3 := hfs 3 _ rfl
  have h4 : DataW.trod enc Tryz.prog W 0 (fun _ => true) true n 22 (([a, b, c, d, e, f, g].drop 4).take (Tryz.prog.cellsOf 22)) = some y4 := hfs 4 _ rfl
  have h5 : DataW.trod enc Tryz.prog W 0 (fun _ => true) true n 22 (([a, b, c, d, e, f, g].drop 5).take (Tryz.prog.cellsOf 22)) = some y5 := hfs 5 _ rfl
  have h6 : DataW.trod enc Tryz.prog W 0 (fun _ => true) true n 22 (([a, b, c, d, e, f, g].drop 6).take (Tryz.prog.cellsOf 22)) = some y6 := hfs 6 _ rfl
  rw [cu1] at h0 h1
  rw [cu2] at h2 h4 h5 h6
  rw [cu3] at h3
  obtain ⟨t0, e0, b0⟩ := byte_read h0
  obtain ⟨t1, e1, b1⟩ := byte_read h1
  obtain ⟨v2, l2, e2, ⟨A2, c2, z2, k2⟩, n2, q2⟩ := bytes_read h2 (fits_agg Tryz.underlying25 hf (j := 2) rfl rfl)
  obtain ⟨A3, c3, l3, e3, k3, q3, n3⟩ := slice_read (α := List Nat × Value) ([], .int .i64 0) (fun p => [p.2]) (fun p => U8C W W.heap.size p.2 p.1 ∧ p.1.length ≤ reachBytes ∧ ∀ n ∈ p.1, n ≤ 255) Tryz.underlying23 cu2 (by decide) (Nat.le_of_ble_eq_true (by kernel_rfl)) (fun _ => rfl) (fun k cs x h hf => by
    obtain ⟨v, l, h1, h2, h3, h4⟩ := bytes_read h hf
    exact ⟨(l, v), h1, h2, h3, h4⟩) h3 (fits_agg Tryz.underlying25 hf (j := 3) rfl rfl)
  obtain ⟨v4, l4, e4, ⟨A4, c4, z4, k4⟩, n4, q4⟩ := bytes_read h4 (fits_agg Tryz.underlying25 hf (j := 4) rfl rfl)
  obtain ⟨v5, l5, e5, ⟨A5, c5, z5, k5⟩, n5, q5⟩ := bytes_read h5 (fits_agg Tryz.underlying25 hf (j := 5) rfl rfl)
  obtain ⟨v6, l6, e6, ⟨A6, c6, z6, k6⟩, n6, q6⟩ := bytes_read h6 (fits_agg Tryz.underlying25 hf (j := 6) rfl rfl)
  rw [flat_ones] at k3
  simp only [List.drop_zero, List.drop_succ_cons, List.take_succ_cons, List.take_zero, List.cons.injEq, and_true] at e0 e1 e2 e3 e4 e5 e6
  subst e0 e1 e2 e3 e4 e5 e6 z2 z4 z5 z6
  have hR : reachBytes ≤ 140737488355328 := by decide
  refine ⟨⟨t0, t1, l2, l3.map (·.1), l4, l5, l6⟩, ⟨⟨A2, c2, A3, c3, A4, c4, A5, c5, A6, c6, l3, by simp, k2, k3, rfl, fun p hp => (q3 p hp).1, k4, k5, k6⟩⟩, ?_⟩
  refine ⟨b0, b1, Nat.le_trans n2 hR, by simpa using Nat.le_trans n3 hR, Nat.le_trans n4 hR, Nat.le_trans n5 hR, Nat.le_trans n6 hR, q2, fun l hl => ?_, q4, q5, q6⟩
  obtain ⟨p, hp, rfl⟩ := List.mem_map.1 hl
  exact ⟨Nat.le_trans (q3 p hp).2.1 hR, (q3 p hp).2.2⟩
end
end Go.Proofs.YtdhhkancbgealaaGreat
end
section
namespace Go.Proofs.YtdhhkancbgealaaGreat
open Go.RowKit
open Lx
set_option linter.unusedVariables false
set_option linter.unusedSimpArgs false
set_option maxRecDepth 100000
theorem infoLevel : (Tryz.prog.info? 124).map (fun i => (i.zero, i.size, i.bytes)) = some (some (.agg #[.int .i64 0, .slice none 0 0]), 2, 32) := by kernel_rfl
theorem infoToken : (Tryz.prog.info? 121).map (fun i => (i.zero, i.size, i.bytes)) = some (some (.agg #[.string ⟨#[]⟩, .string ⟨#[]⟩, .string ⟨#[]⟩, .bool false]), 4, 56) := by kernel_rfl
theorem infoRule : (Tryz.prog.info? 117).map (fun i => (i.zero, i.size, i.bytes)) = some (some (.agg #[.string ⟨#[]⟩, .slice none 0 0, .string ⟨#[]⟩, .string ⟨#[]⟩]), 4, 72) := by kernel_rfl
theorem cut_pqr : ∀ i, i < 5 → (⟨#[112, 113, 114, 115, 116]⟩ : ByteArray).extract i (i + 1) = str (Sm.pqr i) := Sm.five rfl rfl rfl rfl rfl
theorem cut_abc : ∀ i, i < 5 → (⟨#[97, 98, 99, 100, 101]⟩ : ByteArray).extract i (i + 1) = str (Sm.abc i) := Sm.five rfl rfl rfl rfl rfl
theorem cut_stuv : ∀ i, i < 4 → (⟨#[83, 84, 85, 86]⟩ : ByteArray).extract i (i + 1) = str (Sm.stuv i) := by
  intro i hi
  match i, hi with
  | 0, _ => rfl
  | 1, _ => rfl
  | 2, _ => rfl
  | 3, _ => rfl
theorem own_put {w : World} {B e size n b cap : Nat} {xs : List Value} (h : w.ownsRow B e size (.slice (some ⟨b, 0, none⟩) n cap) n xs) (i : Nat) (u : Value) : (w.setCell ⟨b, i, none⟩ u).ownsRow B e size (.slice (some ⟨b, 0, none⟩) n cap) n (xs.set i u) := by
  rcases h.2 with ⟨h0, _⟩ | ⟨g', cap', cur, h0, hbg, hg, hnc, hcm, hcs, htake⟩
  · simp at h0
  · simp only [Value.slice.injEq, Option.some.injEq, Addr.mk.injEq, and_true, true_and] at h0
    obtain ⟨rfl, rfl⟩ := h0
    have hat : At w b e cur := hg
    refine ⟨by rw [List.length_set]; exact h.1, .inr ⟨b, cap, cur.setIfInBounds i u, rfl, hbg, hat.set i u, hnc, hcm, by simpa using hcs, ?_⟩⟩
    rw [← htake, Array.toList_setIfInBounds, List.take_set]
theorem own_at {w : World} {B e size n b cap : Nat} {xs : List Value} (h : w.ownsRow B e size (.slice (some ⟨b, 0, none⟩) n cap) n xs) : ∃ cur, At w b e cur := by
  rcases h.2 with ⟨h0, _⟩ | ⟨g', cap', cur, h0, hbg, hg, _⟩
  · simp at h0
  · simp only [Value.slice.injEq, Option.some.injEq, Addr.mk.injEq, and_true, true_and] at h0
    obtain ⟨rfl, rfl⟩ := h0
    exact ⟨cur, hg⟩
theorem levsC_append (l m : List (Rd.Lev × Value × Int)) : levsC (l ++ m) = levsC l ++ levsC m := by unfold levsC; rw [List.flatMap_append]
theorem levsC_set : ∀ (l : List (Rd.Lev × Value × Int)) (j : Nat) (p : Rd.Lev × Value × Int) (x : Rd.Lev) (v : Value), l[j]? = some p → (levsC l).set (j * 2 + 1) v = levsC (l.set j (x, v, p.2.2))
  | [], j, p, x, v, h => by simp at h
  | a :: r, 0, p, x, v, h => by
    simp at h; subst h; rfl
  | a :: r, j + 1, p, x, v, h => by
    have h2 := levsC_set r j p x v (by simpa using h)
    have e : (j + 1) * 2 + 1 = j * 2 + 1 + 2 := by omega
    have e2 : levsC (a :: r) = .int .i64 a.2.2 :: a.2.1 :: levsC r := rfl
    rw [e, e2, List.set_cons_succ, List.set_cons_succ, h2, List.set_cons_succ]
    rfl
structure Mk (B : Nat) (w0 : World) (g : Nat) (vT : Value) (nT : Nat) (T : List Rd.Tok) (vL : Value) (nL : Nat) (L : List (Rd.Lev × Value × Int)) (vR : Value) (nR : Nat) (R : List (Rd.Rule × Value)) (w : World) : Prop where
  at_ : At w g 84 #[vT, .slice none 0 0, vL, .string ⟨#[83]⟩, vR]
  tk : w.ownsRow B 121 4 vT nT (toksV T)
  lv : w.ownsRow B 124 2 vL nL (levsC L)
  rl : w.ownsRow B 117 4 vR nR (rulesV R)
  ln : ∀ p ∈ L, p.1.assoc = encA p.2.2 ∧ Nms w p.2.1 p.1.names
  rn : ∀ p ∈ R, Nms w p.2 p.1.right
  hg : B ≤ g
  bel : Below B w0 w
  low : B ≤ w0.heap.size
section
variable {B g nT nL nR n' : Nat} {w0 w w5 w' : World} {vT vL vR v' : Value} {T T' : List Rd.Tok} {L L' : List (Rd.Lev × Value × Int)} {R R' : List (Rd.Rule × Value)}
theorem Mk.below (h : Mk B w0 g vT nT T vL nL L vR nR R w) (hb : Below w.heap.size w w') : Mk B w0 g vT nT T vL nL L vR nR R w' :=
  ⟨h.at_.below hb h.at_.lt, own_stay h.tk (Stay.below hb), own_stay h.lv (Stay.below hb), own_stay h.rl (Stay.below hb), fun p hp => ⟨(h.ln p hp).1, (h.ln p hp).2.stay (Stay.below hb)⟩, fun p hp => (h.rn p hp).stay (Stay.below hb), h.hg, h.bel.trans (hb.mono (Nat.le_trans h.low h.bel.size)), h.low⟩
theorem Mk.alloc (h : Mk B w0 g vT nT T vL nL L vR nR R w) (o : Obj) : Mk B w0 g vT nT T vL nL L vR nR R (w.alloc o) := h.below ((Below.refl _ _).alloc (Nat.le_refl _) o)
theorem Mk.drewN (h : Mk B w0 g vT nT T vL nL L vR nR R w) (n : Nat) : Mk B w0 g vT nT T vL nL L vR nR R (w.drewN n) := h.below (below_drewN (Below.refl _ _) n)
theorem Mk.drew (h : Mk B w0 g vT nT T vL nL L vR nR R w) : Mk B w0 g vT nT T vL nL L vR nR R w.drew := h.below (below_drew (Below.refl _ _))
theorem Mk.size (h : Mk B w0 g vT nT T vL nL L vR nR R w) : B ≤ w.heap.size := Nat.le_trans h.low h.bel.size
theorem Mk.putT (h : Mk B w0 g vT nT T vL nL L vR nR R w) (ho : w5.ownsRow B 121 4 v' n' (toksV T')) (hg : w.grownBy w5 vT.ownBlock) : Mk B w0 g v' n' T' vL nL L vR nR R (w5.setCell ⟨g, 0, none⟩ v') := by
  have ha := h.at_.grown hg (fun e => own_apart h.tk h.at_ (by decide) e.symm)
  have hs : ∀ t, t ≠ 121 → t ≠ 84 → Stay t w (w5.setCell ⟨g, 0, none⟩ v') := fun t h1 h2 => (Stay.own h.tk h1 hg).trans (Stay.far ha h2 (grown_set (grown_refl _ _) 0 _))
  refine ⟨by simpa using ha.set 0 v', own_stay ho (Stay.far ha (by decide) (grown_set (grown_refl _ _) 0 _)), own_stay h.lv (hs _ (by decide) (by decide)), own_stay h.rl (hs _ (by decide) (by decide)), fun p hp => ⟨(h.ln p hp).1, (h.ln p hp).2.stay (hs _ (by decide) (by decide))⟩, fun p hp => (h.rn p hp).stay (hs _ (by decide) (by decide)), h.hg, ?_, h.low⟩
  exact below_grown (h.bel.grown hg h.size (fun j hj => (own_lt h.tk j hj).1)) (grown_set (grown_refl _ _) 0 _) (Nat.le_trans h.size hg.size) h.hg
theorem Mk.putL (h : Mk B w0 g vT nT T vL nL L vR nR R w) {x : Rd.Lev} {v a} (ho : w5.ownsRow B 124 2 v' n' (levsC (L ++ [(x, v, a)]))) (hg : w.grownBy w5 vL.ownBlock) (hx : x.assoc = encA a) (hn : Nms w v x.names) : Mk B w0 g vT nT T v' n' (L ++ [(x, v, a)]) vR nR R (w5.setCell ⟨g, 2, none⟩ v') := by
  have ha := h.at_.grown hg (fun e => own_apart h.lv h.at_ (by decide) e.symm)
  have hs : ∀ t, t ≠ 124 → t ≠ 84 → Stay t w (w5.setCell ⟨g, 2, none⟩ v') := fun t h1 h2 => (Stay.own h.lv h1 hg).trans (Stay.far ha h2 (grown_set (grown_refl _ _) 2 _))
  refine ⟨by simpa using ha.set 2 v', own_stay h.tk (hs _ (by decide) (by decide)), own_stay ho (Stay.far ha (by decide) (grown_set (grown_refl _ _) 2 _)), own_stay h.rl (hs _ (by decide) (by decide)), fun p hp => ?_, fun p hp => (h.rn p hp).stay (hs _ (by decide) (by decide)), h.hg, ?_, h.low⟩
  · rcases List.mem_append.1 hp with h1 | h1
    · exact ⟨(h.ln p h1).1, (h.ln p h1).2.stay (hs _ (by decide) (by decide))⟩
    · simp at h1; subst h1; exact ⟨hx, hn.stay (hs _ (by decide) (by decide))⟩
  · exact below_grown (h.bel.grown hg h.size (fun j hj => (own_lt h.lv j hj).1)) (grown_set (grown_refl _ _) 2 _) (Nat.le_trans h.size hg.size) h.hg
theorem Mk.putR (h : Mk B w0 g vT nT T vL nL L vR nR R w) {x : Rd.Rule} {v} (ho : w5.ownsRow B 117 4 v' n' (rulesV (R ++ [(x, v)]))) (hg : w.grownBy w5 vR.ownBlock) (hn : Nms w v x.right) : Mk B w0 g vT nT T vL nL L v' n' (R ++ [(x, v)]) (w5.setCell ⟨g, 4, none⟩ v') := by
  have ha := h.at_.grown hg (fun e => own_apart h.rl h.at_ (by decide) e.symm)
  have hs : ∀ t, t ≠ 117 → t ≠ 84 → Stay t w (w5.setCell ⟨g, 4, none⟩ v') := fun t h1 h2 => (Stay.own h.rl h1 hg).trans (Stay.far ha h2 (grown_set (grown_refl _ _) 4 _))
  refine ⟨by simpa using ha.set 4 v', own_stay h.tk (hs _ (by decide) (by decide)), own_stay h.lv (hs _ (by decide) (by decide)), own_stay ho (Stay.far ha (by decide) (grown_set (grown_refl _ _) 4 _)), fun p hp => ⟨(h.ln p hp).1, (h.ln p hp).2.stay (hs _ (by decide) (by decide))⟩, fun p hp => ?_, h.hg, ?_, h.low⟩
  · rcases List.mem_append.1 hp with h1 | h1
    · exact (h.rn p h1).stay (hs _ (by decide) (by decide))
    · simp at h1; subst h1; exact hn.stay (hs _ (by decide) (by decide))
  · exact below_grown (h.bel.grown hg h.size (fun j hj => (own_lt h.rl j hj).1)) (grown_set (grown_refl _ _) 4 _) (Nat.le_trans h.size hg.size) h.hg
theorem Mk.setL {b cap : Nat} (h : Mk B w0 g vT nT T (.slice (some ⟨b, 0, none⟩) nL cap) nL L vR nR R w) {j : Nat} {p : Rd.Lev × Value × Int} (hj : L[j]? = some p) {l : List Rd.Name} (hn : Nms w v' l) : Mk B w0 g vT nT T (.slice (some ⟨b, 0, none⟩) nL cap) nL (L.set j (⟨p.1.assoc, l⟩, v', p.2.2)) vR nR R (w.setCell ⟨b, j * 2 + 1, none⟩ v') := by
  obtain ⟨cur, hcur⟩ := own_at h.lv
  have hs : ∀ t, t ≠ 124 → Stay t w (w.setCell ⟨b, j * 2 + 1, none⟩ v') := fun t h1 => Stay.far hcur h1 (grown_set (grown_refl _ _) _ _)
  refine ⟨hs _ (by decide) _ _ h.at_, own_stay h.tk (hs _ (by decide)), ?_, own_stay h.rl (hs _ (by decide)), fun q hq => ?_, fun p hp => (h.rn p hp).stay (hs _ (by decide)), h.hg, ?_, h.low⟩
  · have := own_put h.lv (j * 2 + 1) v'
    rwa [levsC_set L j p ⟨p.1.assoc, l⟩ v' hj] at this
  · rcases List.mem_or_eq_of_mem_set hq with h1 | h1
    · exact ⟨(h.ln q h1).1, (h.ln q h1).2.stay (hs _ (by decide))⟩
    · subst h1
      exact ⟨(h.ln p (List.mem_of_getElem? hj)).1, hn.stay (hs _ (by decide))⟩
  · exact below_grown h.bel (grown_set (grown_refl _ _) _ _) h.size (own_lt h.lv b rfl).1
end
end Go.Proofs.YtdhhkancbgealaaGreat
end
