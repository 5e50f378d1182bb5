import Derived.Test.YtccndcebbjipnaaGreatDoorT38
import Derived.Test.YtccndcebbjipnaaGreatDoorT39
namespace Go.Proofs.YtccndcebbjipnaaGreatDoor
open Go.RowKit Go.ChangeShapes Go.WideShapes Go.ChangeAt
open Lx
set_option linter.unusedVariables false
set_option linter.unusedSimpArgs false
set_option maxRecDepth 100000
def u8V (l : List Nat) : List Value := l.map fun (x : Nat) => .int .u8 ((x : Nat) : Int)
theorem u8V_get {l : List Nat} {k x : Nat} (h : l[k]? = some x) : (u8V l)[k]? = some (.int .u8 (x : Int)) := by simp [u8V, h]
theorem u8_wf9 {n : Int} (h : (Lit.int .u8 n).wf = true) : 0 ≤ n ∧ n ≤ 255 := by
 simpa [Lit.wf, IntKind.min, IntKind.max, IntKind.signed, IntKind.bits] using h
def U8C (w : World) (B : Nat) (v : Value) (l : List Nat) : Prop := ∃ A cap, v = .slice A l.length cap ∧ Cl w B A (u8V l)
theorem U8C.below {w w' : World} {B : Nat} {v : Value} {l : List Nat} (h : U8C w B v l) (hb : Below B w w') : U8C w' B v l := by
 obtain ⟨A, cap, h1, h2⟩ := h; exact ⟨A, cap, h1, h2.below hb⟩
theorem U8C.mono {w : World} {B B' : Nat} {v : Value} {l : List Nat} (h : U8C w B v l) (hB : B ≤ B') : U8C w B' v l := by
 obtain ⟨A, cap, h1, h2⟩ := h; exact ⟨A, cap, h1, h2.mono hB⟩
structure SmallC (w : World) (B : Nat) (v : Value) (s : Sm.S) : Prop where
 ex : ∃ A1 c1 A2 c2 A3 c3 A4 c4 A5 c5, ∃ ql : List (List Nat × Value), v = .agg #[.int .u8 (s.tokens : Int), .int .u8 (s.vars : Int), .slice A1 s.lefts.length c1, .slice A2 s.rights.length c2, .slice A3 s.precs.length c3, .slice A4 s.assocs.length c4, .slice A5 s.levels.length c5] ∧
  Cl w B A1 (u8V s.lefts) ∧ Cl w B A2 (ql.map (·.2)) ∧ ql.map (·.1) = s.rights ∧ (∀ p ∈ ql, U8C w B p.2 p.1) ∧ Cl w B A3 (u8V s.precs) ∧ Cl w B A4 (u8V s.assocs) ∧ Cl w B A5 (u8V s.levels)
theorem SmallC.below {w w' : World} {B : Nat} {v : Value} {s : Sm.S} (h : SmallC w B v s) (hb : Below B w w') : SmallC w' B v s := by
 obtain ⟨A1, c1, A2, c2, A3, c3, A4, c4, A5, c5, ql, h0, h1, h2, h3, h4, h5, h6, h7⟩ := h.ex
 exact ⟨A1, c1, A2, c2, A3, c3, A4, c4, A5, c5, ql, h0, h1.below hb, h2.below hb, h3, fun p hp => (h4 p hp).below hb, h5.below hb, h6.below hb, h7.below hb⟩
theorem SmallC.mono {w : World} {B B' : Nat} {v : Value} {s : Sm.S} (h : SmallC w B v s) (hB : B ≤ B') : SmallC w B' v s := by
 obtain ⟨A1, c1, A2, c2, A3, c3, A4, c4, A5, c5, ql, h0, h1, h2, h3, h4, h5, h6, h7⟩ := h.ex
 exact ⟨A1, c1, A2, c2, A3, c3, A4, c4, A5, c5, ql, h0, h1.mono hB, h2.mono hB, h3, fun p hp => (h4 p hp).mono hB, h5.mono hB, h6.mono hB, h7.mono hB⟩
structure SmSz (s : Sm.S) : Prop where
 tokens : s.tokens ≤ 255
 vars : s.vars ≤ 255
 n1 : s.lefts.length ≤ 140737488355328
 n2 : s.rights.length ≤ 140737488355328
 n3 : s.precs.length ≤ 140737488355328
 n4 : s.assocs.length ≤ 140737488355328
 n5 : s.levels.length ≤ 140737488355328
 left : ∀ x ∈ s.lefts, x ≤ 255
 right : ∀ l ∈ s.rights, l.length ≤ 140737488355328 ∧ ∀ x ∈ l, x ≤ 255
 prec : ∀ x ∈ s.precs, x ≤ 255
 assoc : ∀ x ∈ s.assocs, x ≤ 255
 level : ∀ x ∈ s.levels, x ≤ 255
theorem list7 {α : Type} {l : List α} (h : l.length = 7) : ∃ a b c d e f g, l = [a, b, c, d, e, f, g] := by
 match l, h with
 | [a, b, c, d, e, f, g], _ => exact ⟨a, b, c, d, e, f, g, rfl⟩
section
variable {H : Type} {enc : TypeId × Value → H} {W : World}
theorem cu1 : Tryz.prog.cellsOf 5 = 1 := by kernel_rfl
theorem cu2 : Tryz.prog.cellsOf 49 = 1 := by kernel_rfl
theorem cu3 : Tryz.prog.cellsOf 50 = 1 := by kernel_rfl
theorem cu7 : Tryz.prog.cellsOf 52 = 7 := by kernel_rfl
theorem byte_read {k : Nat} {cs : List Value} {x : DataW H × List MemPlace} (h : DataW.trod enc Tryz.prog W 0 (fun _ => true) true k 5 cs = some x) : ∃ n : Nat, cs = [.int .u8 (n : Int)] ∧ n ≤ 255 := by
 obtain ⟨i, rfl, _, hw⟩ := DataW.trod_int Tryz.underlying5 h
 have := u8_wf9 hw
 exact ⟨i.toNat, by congr 2; omega, by omega⟩
theorem bytes_read {k : Nat} {cs : List Value} {x : DataW H × List MemPlace} (h : DataW.trod enc Tryz.prog W 0 (fun _ => true) true k 49 cs = some x) (hf : Fits x.1 49) :
  ∃ v, ∃ l : List Nat, cs = [v] ∧ U8C W W.heap.size v l ∧ l.length ≤ reachBytes ∧ ∀ n ∈ l, n ≤ 255 := by
 obtain ⟨A, c, l, rfl, h1, h2, h3⟩ := slice_read (α := Nat) 0 (fun (n : Nat) => [.int .u8 ((n : Nat) : Int)]) (fun n => n ≤ 255) Tryz.underlying49 cu1 (by decide) (Nat.le_of_ble_eq_true (by kernel_rfl)) (fun _ => rfl) (fun k cs x h hf => byte_read h) h hf
 exact ⟨_, l, rfl, ⟨A, c, rfl, by rw [flat_ones] at h1; exact h1⟩, h3, h2⟩
theorem open_small {base : Nat} {v : Value} {d : DataW H} {p : List MemPlace} (hv : Value.okWide Tryz.prog W .any base 52 v) (h : DataW.Trod enc Tryz.prog W 0 (fun _ => true) true 52 v d p) (hf : Fits d 52) :
  ∃ s : Sm.S, SmallC W W.heap.size v s ∧ SmSz s := by
 obtain ⟨cs, rfl, hcs⟩ := okWide_struct Tryz.underlying52 hv
 obtain ⟨fuel, ht⟩ := h
 obtain ⟨xs, n, _, hx, hl, hlen, hfs⟩ := DataW.trod_struct Tryz.underlying52 ht
 simp only [Prod.mk.injEq] at hx
 obtain ⟨rfl, rfl⟩ := hx
 rw [cu7] at hl
 obtain ⟨a, b, c, d, e, f, g, hcv⟩ := list7 hl
 obtain ⟨y0, y1, y2, y3, y4, y5, y6, rfl⟩ := list7 hlen
 rw [hcv] at hfs
 have hce : cs = #[a, b, c, d, e, f, g] := by
  have : cs.toList = [a, b, c, d, e, f, g] := by simpa [Value.cells] using hcv
  exact Array.toList_inj.1 (by simpa using this)
 subst hce
 have h0 : DataW.trod enc Tryz.prog W 0 (fun _ => true) true n 5 (([a, b, c, d, e, f, g].drop 0).take (Tryz.prog.cellsOf 5)) = some y0 := hfs 0 _ rfl
 have h1 : DataW.trod enc Tryz.prog W 0 (fun _ => true) true n 5 (([a, b, c, d, e, f, g].drop 1).take (Tryz.prog.cellsOf 5)) = some y1 := hfs 1 _ rfl
 have h2 : DataW.trod enc Tryz.prog W 0 (fun _ => true) true n 49 (([a, b, c, d, e, f, g].drop 2).take (Tryz.prog.cellsOf 49)) = some y2 := hfs 2 _ rfl
 have h3 : DataW.trod enc Tryz.prog W 0 (fun _ => true) true n 50 (([a, b, c, d, e, f, g].drop 3).take (Tryz.prog.cellsOf 50)) = some y3 := hfs 3 _ rfl
 have h4 : DataW.trod enc Tryz.prog W 0 (fun _ => true) true n 49 (([a, b, c, d, e, f, g].drop 4).take (Tryz.prog.cellsOf 49)) = some y4 := hfs 4 _ rfl
 have h5 : DataW.trod enc Tryz.prog W 0 (fun _ => true) true n 49 (([a, b, c, d, e, f, g].drop 5).take (Tryz.prog.cellsOf 49)) = some y5 := hfs 5 _ rfl
 have h6 : DataW.trod enc Tryz.prog W 0 (fun _ => true) true n 49 (([a, b, c, d, e, f, g].drop 6).take (Tryz.prog.cellsOf 49)) = some y6 := hfs 6 _ rfl
 rw [cu1] at h0 h1
 rw [cu2] at h2 h4 h5 h6
 rw [cu3] at h3
 obtain ⟨t0, e0, b0⟩ := byte_read h0
 obtain ⟨t1, e1, b1⟩ := byte_read h1
 obtain ⟨v2, l2, e2, ⟨A2, c2, z2, k2⟩, n2, q2⟩ := bytes_read h2 (fits_agg Tryz.underlying52 hf (j := 2) rfl rfl)
 obtain ⟨A3, c3, l3, e3, k3, q3, n3⟩ := slice_read (α := List Nat × Value) ([], .int .i64 0) (fun p => [p.2]) (fun p => U8C W W.heap.size p.2 p.1 ∧ p.1.length ≤ reachBytes ∧ ∀ n ∈ p.1, n ≤ 255) Tryz.underlying50 cu2 (by decide) (Nat.le_of_ble_eq_true (by kernel_rfl)) (fun _ => rfl) (fun k cs x h hf => by
  obtain ⟨v, l, h1, h2, h3, h4⟩ := bytes_read h hf
  exact ⟨(l, v), h1, h2, h3, h4⟩) h3 (fits_agg Tryz.underlying52 hf (j := 3) rfl rfl)
 obtain ⟨v4, l4, e4, ⟨A4, c4, z4, k4⟩, n4, q4⟩ := bytes_read h4 (fits_agg Tryz.underlying52 hf (j := 4) rfl rfl)
 obtain ⟨v5, l5, e5, ⟨A5, c5, z5, k5⟩, n5, q5⟩ := bytes_read h5 (fits_agg Tryz.underlying52 hf (j := 5) rfl rfl)
 obtain ⟨v6, l6, e6, ⟨A6, c6, z6, k6⟩, n6, q6⟩ := bytes_read h6 (fits_agg Tryz.underlying52 hf (j := 6) rfl rfl)
 rw [flat_ones] at k3
 simp only [List.drop_zero, List.drop_succ_cons, List.take_succ_cons, List.take_zero, List.cons.injEq, and_true] at e0 e1 e2 e3 e4 e5 e6
 subst e0 e1 e2 e3 e4 e5 e6 z2 z4 z5 z6
 have hR : reachBytes ≤ 140737488355328 := by decide
 refine ⟨⟨t0, t1, l2, l3.map (·.1), l4, l5, l6⟩, ⟨⟨A2, c2, A3, c3, A4, c4, A5, c5, A6, c6, l3, by simp, k2, k3, rfl, fun p hp => (q3 p hp).1, k4, k5, k6⟩⟩, ?_⟩
 refine ⟨b0, b1, Nat.le_trans n2 hR, by simpa using Nat.le_trans n3 hR, Nat.le_trans n4 hR, Nat.le_trans n5 hR, Nat.le_trans n6 hR, q2, fun l hl => ?_, q4, q5, q6⟩
 obtain ⟨p, hp, rfl⟩ := List.mem_map.1 hl
 exact ⟨Nat.le_trans (q3 p hp).2.1 hR, (q3 p hp).2.2⟩
end
end Go.Proofs.YtccndcebbjipnaaGreatDoor
