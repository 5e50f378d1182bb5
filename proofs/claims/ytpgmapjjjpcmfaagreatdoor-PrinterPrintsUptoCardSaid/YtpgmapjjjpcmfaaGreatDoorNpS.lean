import Derived.Test.YtpgmapjjjpcmfaaGreatDoorPrX
import Derived.Test.YtpgmapjjjpcmfaaGreatDoorPrT2
import Derived.Test.YtpgmapjjjpcmfaaGreatDoorRows
import Derived.Test.YtpgmapjjjpcmfaaGreatDoorOps3
import Derived.Deep.Strs
import Derived.SizedLaws
namespace Go.Proofs.YtpgmapjjjpcmfaaGreatDoor
open Go.RowKit Go.ChangeShapes Go.WideShapes Go.ChangeAt
open Lx
set_option linter.unusedVariables false
set_option linter.unusedSimpArgs false
set_option maxRecDepth 100000
theorem flat_inv {α : Type} (f : α → List Value) (n : Nat) (hf : ∀ x, (f x).length = n) : ∀ (l : List α) (j : Nat) (u : Value), (l.flatMap f)[j]? = some u → ∃ (i r : Nat) (q : α), l[i]? = some q ∧ r < n ∧ j = i * n + r ∧ (f q)[r]? = some u
 | [], j, u, h => by simp at h
 | s :: t, j, u, h => by
  rw [List.flatMap_cons] at h
  by_cases hj : j < n
  ·rw [List.getElem?_append_left (by rw [hf]; exact hj)] at h
   exact ⟨0, j, s, rfl, hj, by omega, h⟩
  ·rw [List.getElem?_append_right (by rw [hf]; omega), hf] at h
   obtain ⟨i, r, q, h1, h2, h3, h4⟩ := flat_inv f n hf t (j - n) u h
   exact ⟨i + 1, r, q, by simpa using h1, h2, by rw [Nat.add_mul]; omega, h4⟩
theorem flat_ones {α : Type} (f : α → Value) (l : List α) : l.flatMap (fun x => [f x]) = l.map f := by
 induction l with
 | nil => rfl
 | cons a r ih => simp [List.flatMap_cons, ih]
theorem list2 {α : Type} {l : List α} (h : l.length = 2) : ∃ a b, l = [a, b] := by
 match l, h with
 | [a, b], _ => exact ⟨a, b, rfl⟩
theorem list3 {α : Type} {l : List α} (h : l.length = 3) : ∃ a b c, l = [a, b, c] := by
 match l, h with
 | [a, b, c], _ => exact ⟨a, b, c, rfl⟩
theorem list4 {α : Type} {l : List α} (h : l.length = 4) : ∃ a b c d, l = [a, b, c, d] := by
 match l, h with
 | [a, b, c, d], _ => exact ⟨a, b, c, d, rfl⟩
theorem list5 {α : Type} {l : List α} (h : l.length = 5) : ∃ a b c d e, l = [a, b, c, d, e] := by
 match l, h with
 | [a, b, c, d, e], _ => exact ⟨a, b, c, d, e, rfl⟩
theorem sum_bound9 {α : Type} (f : α → Nat) (c : Nat) : ∀ l : List α, (∀ x ∈ l, f x ≤ c) → (l.map f).sum ≤ l.length * c
 | [], _ => by simp
 | x :: r, h => by
  have h1 := sum_bound9 f c r (fun y hy => h y (List.mem_cons_of_mem _ hy))
  have h2 := h x List.mem_cons_self
  simp only [List.map_cons, List.sum_cons, List.length_cons, Nat.add_mul, Nat.one_mul]
  omega
section
variable {H : Type} {enc : TypeId × Value → H} {W : World}
def Fits (d : DataW H) (t : TypeId) : Prop := Rows.uptoBulk d ≤ 1048576
theorem bulk_one (d : DataW H) : 1 ≤ Rows.uptoBulk d := by
 cases d with
 | lit l => cases l <;> simp [Rows.uptoBulk]
 | nil => simp [Rows.uptoBulk]
 | ptr d => simp [Rows.uptoBulk]
 | slice elems spare => simp [Rows.uptoBulk]
 | agg parts => simp [Rows.uptoBulk]
 | iface t d => simp [Rows.uptoBulk]
 | map entries => simp [Rows.uptoBulk]
 | held h => simp [Rows.uptoBulk]
theorem bulk_mem {d : DataW H} : ∀ {l : List (DataW H)}, d ∈ l → Rows.uptoBulk d ≤ Rows.uptoBulkAll l
 | [], h => by simp at h
 | x :: r, h => by
  simp only [Rows.uptoBulkAll]
  rcases List.mem_cons.1 h with h | h
  ·subst h; omega
  ·have := bulk_mem (l := r) h; omega
theorem bulk_len : ∀ (l : List (DataW H)), l.length ≤ Rows.uptoBulkAll l
 | [] => by simp [Rows.uptoBulkAll]
 | x :: r => by
  have := bulk_one x
  have := bulk_len r
  simp only [Rows.uptoBulkAll, List.length_cons]; omega
theorem fits_agg {t : TypeId} {fs : Array Field} {ds : List (DataW H)} (ht : Tryz.prog.underlying t = some (.struct fs)) (hf : Fits (.agg ds) t) {j : Nat} {t' : TypeId} {d : DataW H} (h1 : (fs.toList.map (·.type))[j]? = some t') (h2 : ds[j]? = some d) : Fits d t' := by
 have h3 := bulk_mem (List.mem_of_getElem? h2)
 unfold Fits at *
 rw [Rows.uptoBulk] at hf
 omega
theorem str_read {k : Nat} {cs : List Value} {x : DataW H × List MemPlace} (h : DataW.trod enc Tryz.prog W 0 (fun _ => true) true k 9 cs = some x) (hf : Fits x.1 9) : ∃ n : Rd.Name, cs = [.string (str n)] ∧ n.length ≤ 1048576 := by
 obtain ⟨s, rfl, rfl, _⟩ := DataW.trod_string Tryz.underlying9 h
 refine ⟨bl s, by rw [str_bl], ?_⟩
 have h1 : Rows.uptoBulk (DataW.lit (H := H) (.string (bl s))) ≤ 1048576 := hf
 rw [Rows.uptoBulk] at h1
 omega
theorem cs1 : Tryz.prog.cellsOf 9 = 1 := by kernel_rfl
theorem cb1 : Tryz.prog.cellsOf 4 = 1 := by kernel_rfl
theorem ci1 : Tryz.prog.cellsOf 3 = 1 := by kernel_rfl
theorem cp3 : Tryz.prog.cellsOf 39 = 3 := by kernel_rfl
theorem ct4 : Tryz.prog.cellsOf 41 = 4 := by kernel_rfl
theorem cl2 : Tryz.prog.cellsOf 50 = 2 := by kernel_rfl
theorem cr4 : Tryz.prog.cellsOf 36 = 4 := by kernel_rfl
theorem cg5 : Tryz.prog.cellsOf 27 = 5 := by kernel_rfl
theorem cx1 : Tryz.prog.cellsOf 34 = 1 := by kernel_rfl
theorem cx2 : Tryz.prog.cellsOf 22 = 1 := by kernel_rfl
theorem cx3 : Tryz.prog.cellsOf 23 = 1 := by kernel_rfl
theorem cx4 : Tryz.prog.cellsOf 24 = 1 := by kernel_rfl
theorem cx5 : Tryz.prog.cellsOf 25 = 1 := by kernel_rfl
theorem slice_read {α : Type} (a0 : α) {t e : TypeId} {K : Nat} (f : α → List Value) (Q : α → Prop) (ht : Tryz.prog.underlying t = some (.slice e)) (ke : Tryz.prog.cellsOf e = K) (hK : 0 < K) (hby : 1 ≤ Tryz.prog.bytesOf e) (hlen : ∀ a, (f a).length = K)
  (hel : ∀ (k : Nat) (cs : List Value) (x : DataW H × List MemPlace), DataW.trod enc Tryz.prog W 0 (fun _ => true) true k e cs = some x → Fits x.1 e → ∃ a, cs = f a ∧ Q a)
  {k : Nat} {cs : List Value} {x : DataW H × List MemPlace} (h : DataW.trod enc Tryz.prog W 0 (fun _ => true) true k t cs = some x) (hf : Fits x.1 t) :
  ∃ A c, ∃ l : List α, cs = [.slice A l.length c] ∧ Cl W W.heap.size A (l.flatMap f) ∧ (∀ a ∈ l, Q a) ∧ l.length ≤ 1048576 := by
 rcases Go.Deep.open_slice ht h with ⟨rfl, _⟩ | ⟨a, len, cap, m, n, D, Pl, rfl, hb, hl, hm, hmm, rfl, hx⟩
 ·exact ⟨none, 0, [], rfl, Cl.nil _ _ _, by simp, Nat.zero_le _⟩
 ·have hlm : m = cap := by simpa using hmm
  have hf1 : Rows.uptoBulkAll ((List.range len).map D) ≤ 1048576 := by
   unfold Fits at hf
   simp only [Rows.uptoBulk] at hf
   omega
  have hfi : ∀ i, i < len → Fits (D i) e := fun i hi => by
   have h1 := bulk_mem (List.mem_map.2 ⟨i, List.mem_range.2 hi, rfl⟩ : D i ∈ (List.range len).map D)
   unfold Fits
   omega
  have hlr : len ≤ 1048576 := by
   have h1 := bulk_len ((List.range len).map D)
   rw [List.length_map, List.length_range] at h1
   omega
  have hread : ∀ i, i < len → ∃ q : α, Q q ∧ ∀ j, j < K → W.cell? (a.add (i * K + j)) = (f q)[j]? := by
   intro i hi
   obtain ⟨cs', h1, h2⟩ := hx i (by omega)
   rw [ke] at h1
   obtain ⟨_, hlen', hcell⟩ := World.cells?_some h1
   obtain ⟨q, rfl, hq⟩ := hel _ _ _ h2 (hfi i hi)
   refine ⟨q, hq, fun j hj => ?_⟩
   have := hcell j hj
   rwa [Go.Deep.add_add] at this
  haveI : Inhabited α := ⟨a0⟩
  obtain ⟨Z, hZ⟩ := Go.Deep.choose_lt (α := α) hread
  refine ⟨some a, cap, (List.range len).map Z, by simp, ⟨fun hne => ?_⟩, fun q hq => ?_, by simpa using hlr⟩
  ·have h0 : 0 < len := by
    rcases Nat.eq_zero_or_pos len with h | h
    ·subst h; simp at hne
    ·exact h
   have g0 := (hZ 0 h0).2 0 hK
   have hl0 : 0 < (f (Z 0)).length := by rw [hlen]; exact hK
   rw [List.getElem?_eq_getElem hl0] at g0
   obtain ⟨ab, ao, rfl, hlt⟩ := at_zero (a := a) (by simpa [Addr.add] using g0)
   refine ⟨ab, ao, rfl, hlt, fun j u hu => ?_⟩
   obtain ⟨i, r, q, h1, h2, rfl, h4⟩ := flat_inv f K hlen _ j u hu
   rw [List.getElem?_map] at h1
   cases hi : (List.range len)[i]? with
   | none => rw [hi] at h1; simp at h1
   | some i' =>
    rw [hi] at h1
    obtain ⟨hlt2, h5⟩ := List.getElem?_eq_some_iff.1 hi
    simp only [List.getElem_range] at h5
    subst h5
    simp only [Option.map_some, Option.some.injEq] at h1
    subst h1
    have g := (hZ i (by simpa using hlt2)).2 r h2
    rw [Go.WideShapes.add_plain, h4] at g
    exact g
  ·obtain ⟨i, hi, rfl⟩ := List.mem_map.1 hq
   exact (hZ i (List.mem_range.1 hi)).1
theorem pat_read {k : Nat} {cs : List Value} {x : DataW H × List MemPlace} (h : DataW.trod enc Tryz.prog W 0 (fun _ => true) true k 39 cs = some x) (hf : Fits x.1 39) :
  ∃ p : Rd.Pat, cs = p.cells ∧ p.text.length ≤ 1048576 ∧ p.set.length ≤ 1048576 := by
 obtain ⟨y0, y1, y2, n, rfl, hl, h0, h1, h2⟩ := Go.Deep.trod_struct3 Tryz.underlying39 h
 rw [cp3] at hl
 obtain ⟨a, b, c, rfl⟩ := list3 hl
 have h0 : DataW.trod enc Tryz.prog W 0 (fun _ => true) true n 9 (([a, b, c].drop 0).take (Tryz.prog.cellsOf 9)) = some y0 := h0
 have h1 : DataW.trod enc Tryz.prog W 0 (fun _ => true) true n 9 (([a, b, c].drop 1).take (Tryz.prog.cellsOf 9)) = some y1 := h1
 have h2 : DataW.trod enc Tryz.prog W 0 (fun _ => true) true n 4 (([a, b, c].drop 2).take (Tryz.prog.cellsOf 4)) = some y2 := h2
 rw [cs1] at h0 h1
 rw [cb1] at h2
 obtain ⟨t0, e0, b0⟩ := str_read h0 (fits_agg Tryz.underlying39 hf (j := 0) rfl rfl)
 obtain ⟨t1, e1, b1⟩ := str_read h1 (fits_agg Tryz.underlying39 hf (j := 1) rfl rfl)
 obtain ⟨t2, e2, _⟩ := DataW.trod_bool Tryz.underlying4 h2
 simp only [List.drop_zero, List.drop_succ_cons, List.take_succ_cons, List.take_zero, List.cons.injEq, and_true] at e0 e1 e2
 subst e0 e1 e2
 exact ⟨⟨t0, t1, t2⟩, rfl, b0, b1⟩
theorem tok_read {k : Nat} {cs : List Value} {x : DataW H × List MemPlace} (h : DataW.trod enc Tryz.prog W 0 (fun _ => true) true k 41 cs = some x) (hf : Fits x.1 41) :
  ∃ t : Rd.Tok, cs = t.cells ∧ t.name.length ≤ 1048576 ∧ t.pat.text.length ≤ 1048576 ∧ t.pat.set.length ≤ 1048576 := by
 obtain ⟨y0, y1, n, rfl, hl, h0, h1⟩ := trod_struct2 Tryz.underlying41 h
 rw [ct4] at hl
 obtain ⟨a, b, c, d, rfl⟩ := list4 hl
 have h0 : DataW.trod enc Tryz.prog W 0 (fun _ => true) true n 9 (([a, b, c, d].drop 0).take (Tryz.prog.cellsOf 9)) = some y0 := h0
 have h1 : DataW.trod enc Tryz.prog W 0 (fun _ => true) true n 39 (([a, b, c, d].drop 1).take (Tryz.prog.cellsOf 39)) = some y1 := h1
 rw [cs1] at h0
 rw [cp3] at h1
 obtain ⟨t0, e0, b0⟩ := str_read h0 (fits_agg Tryz.underlying41 hf (j := 0) rfl rfl)
 obtain ⟨p, e1, b1, b2⟩ := pat_read h1 (fits_agg Tryz.underlying41 hf (j := 1) rfl rfl)
 simp only [Rd.Pat.cells, List.drop_zero, List.drop_succ_cons, List.take_succ_cons, List.take_zero, List.cons.injEq, and_true] at e0 e1
 obtain ⟨rfl, rfl, rfl⟩ := e1
 subst e0
 exact ⟨⟨t0, p⟩, rfl, b0, b1, b2⟩
theorem names_read {k : Nat} {cs : List Value} {x : DataW H × List MemPlace} (h : DataW.trod enc Tryz.prog W 0 (fun _ => true) true k 34 cs = some x) (hf : Fits x.1 34) :
  ∃ v, ∃ l : List Rd.Name, cs = [v] ∧ NmC W W.heap.size v l ∧ l.length ≤ 1048576 ∧ ∀ n ∈ l, n.length ≤ 1048576 := by
 obtain ⟨A, c, l, rfl, h1, h2, h3⟩ := slice_read (α := Rd.Name) [] (fun n => [.string (str n)]) (fun n => n.length ≤ 1048576) Tryz.underlying34 cs1 (by decide) (Nat.le_of_ble_eq_true (by kernel_rfl)) (fun _ => rfl) (fun k cs x h hf => str_read h hf) h hf
 exact ⟨_, l, rfl, ⟨A, c, rfl, by rw [flat_ones] at h1; exact h1⟩, h3, h2⟩
def LevOf (W : World) (p : Rd.Lev × Value × Int) : Prop := p.1.assoc = encA p.2.2 ∧ NmC W W.heap.size p.2.1 p.1.names ∧ p.1.names.length ≤ 1048576 ∧ ∀ n ∈ p.1.names, n.length ≤ 1048576
def RuleOf (W : World) (p : Rd.Rule × Value) : Prop := NmC W W.heap.size p.2 p.1.right ∧ p.1.left.length ≤ 1048576 ∧ p.1.prec.length ≤ 1048576 ∧ p.1.action.length ≤ 1048576 ∧ p.1.right.length ≤ 1048576 ∧ ∀ n ∈ p.1.right, n.length ≤ 1048576
theorem lev_read {k : Nat} {cs : List Value} {x : DataW H × List MemPlace} (h : DataW.trod enc Tryz.prog W 0 (fun _ => true) true k 50 cs = some x) (hf : Fits x.1 50) :
  ∃ p, cs = levC p ∧ LevOf W p := by
 obtain ⟨y0, y1, n, rfl, hl, h0, h1⟩ := trod_struct2 Tryz.underlying50 h
 rw [cl2] at hl
 obtain ⟨a, b, rfl⟩ := list2 hl
 have h0 : DataW.trod enc Tryz.prog W 0 (fun _ => true) true n 3 (([a, b].drop 0).take (Tryz.prog.cellsOf 3)) = some y0 := h0
 have h1 : DataW.trod enc Tryz.prog W 0 (fun _ => true) true n 34 (([a, b].drop 1).take (Tryz.prog.cellsOf 34)) = some y1 := h1
 rw [ci1] at h0
 rw [cx1] at h1
 obtain ⟨i, e0, _⟩ := DataW.trod_int Tryz.underlying3 h0
 obtain ⟨v, l, e1, k1, k2, k3⟩ := names_read h1 (fits_agg Tryz.underlying50 hf (j := 1) rfl rfl)
 simp only [List.drop_zero, List.drop_succ_cons, List.take_succ_cons, List.take_zero, List.cons.injEq, and_true] at e0 e1
 subst e0 e1
 exact ⟨(⟨encA i, l⟩, b, i), rfl, rfl, k1, k2, k3⟩
theorem rule_read {k : Nat} {cs : List Value} {x : DataW H × List MemPlace} (h : DataW.trod enc Tryz.prog W 0 (fun _ => true) true k 36 cs = some x) (hf : Fits x.1 36) :
  ∃ p, cs = ruleCells p ∧ RuleOf W p := by
 obtain ⟨xs, n, _, rfl, hl, hlen, hfs⟩ := DataW.trod_struct Tryz.underlying36 h
 rw [cr4] at hl
 obtain ⟨a, b, c, d, rfl⟩ := list4 hl
 obtain ⟨y0, y1, y2, y3, rfl⟩ := list4 hlen
 have h0 : DataW.trod enc Tryz.prog W 0 (fun _ => true) true n 9 (([a, b, c, d].drop 0).take (Tryz.prog.cellsOf 9)) = some y0 := hfs 0 _ rfl
 have h1 : DataW.trod enc Tryz.prog W 0 (fun _ => true) true n 34 (([a, b, c, d].drop 1).take (Tryz.prog.cellsOf 34)) = some y1 := hfs 1 _ rfl
 have h2 : DataW.trod enc Tryz.prog W 0 (fun _ => true) true n 9 (([a, b, c, d].drop 2).take (Tryz.prog.cellsOf 9)) = some y2 := hfs 2 _ rfl
 have h3 : DataW.trod enc Tryz.prog W 0 (fun _ => true) true n 9 (([a, b, c, d].drop 3).take (Tryz.prog.cellsOf 9)) = some y3 := hfs 3 _ rfl
 rw [cs1] at h0 h2 h3
 rw [cx1] at h1
 obtain ⟨t0, e0, b0⟩ := str_read h0 (fits_agg Tryz.underlying36 hf (j := 0) rfl rfl)
 obtain ⟨v, l, e1, k1, k2, k3⟩ := names_read h1 (fits_agg Tryz.underlying36 hf (j := 1) rfl rfl)
 obtain ⟨t2, e2, b2⟩ := str_read h2 (fits_agg Tryz.underlying36 hf (j := 2) rfl rfl)
 obtain ⟨t3, e3, b3⟩ := str_read h3 (fits_agg Tryz.underlying36 hf (j := 3) rfl rfl)
 simp only [List.drop_zero, List.drop_succ_cons, List.take_succ_cons, List.take_zero, List.cons.injEq, and_true] at e0 e1 e2 e3
 subst e0 e1 e2 e3
 exact ⟨(⟨t0, l, t2, t3⟩, b), rfl, k1, b0, b2, b3, k2, k3⟩
theorem open_gramU2 {base : Nat} {v : Value} {d : DataW H} {p : List MemPlace} (hv : Value.okWide Tryz.prog W .any base 27 v) (h : DataW.Trod enc Tryz.prog W 0 (fun _ => true) true 27 v d p) (hf : Fits d 27) :
  ∃ G : Rd.G, ((GramC W W.heap.size v G ∧ Sz G) ∧ Pr.total G < 4611686018427387904) ∧ G.start.length ≤ 10000000 := by
 obtain ⟨cs, rfl, hcs⟩ := okWide_struct Tryz.underlying27 hv
 obtain ⟨fuel, ht⟩ := h
 obtain ⟨xs, n, _, hx, hl, hlen, hfs⟩ := DataW.trod_struct Tryz.underlying27 ht
 simp only [Prod.mk.injEq] at hx
 obtain ⟨rfl, rfl⟩ := hx
 rw [cg5] at hl
 obtain ⟨a, b, c, d, e, hcv⟩ := list5 hl
 obtain ⟨y0, y1, y2, y3, y4, rfl⟩ := list5 hlen
 rw [hcv] at hfs
 have hce : cs = #[a, b, c, d, e] := by
  have : cs.toList = [a, b, c, d, e] := by simpa [Value.cells] using hcv
  exact Array.toList_inj.1 (by simpa using this)
 subst hce
 have h0 : DataW.trod enc Tryz.prog W 0 (fun _ => true) true n 22 (([a, b, c, d, e].drop 0).take (Tryz.prog.cellsOf 22)) = some y0 := hfs 0 _ rfl
 have h1 : DataW.trod enc Tryz.prog W 0 (fun _ => true) true n 23 (([a, b, c, d, e].drop 1).take (Tryz.prog.cellsOf 23)) = some y1 := hfs 1 _ rfl
 have h2 : DataW.trod enc Tryz.prog W 0 (fun _ => true) true n 24 (([a, b, c, d, e].drop 2).take (Tryz.prog.cellsOf 24)) = some y2 := hfs 2 _ rfl
 have h3 : DataW.trod enc Tryz.prog W 0 (fun _ => true) true n 9 (([a, b, c, d, e].drop 3).take (Tryz.prog.cellsOf 9)) = some y3 := hfs 3 _ rfl
 have h4 : DataW.trod enc Tryz.prog W 0 (fun _ => true) true n 25 (([a, b, c, d, e].drop 4).take (Tryz.prog.cellsOf 25)) = some y4 := hfs 4 _ rfl
 rw [cx2] at h0
 rw [cx3] at h1
 rw [cx4] at h2
 rw [cs1] at h3
 rw [cx5] at h4
 obtain ⟨A1, c1, l1, e1, k1, q1, n1⟩ := slice_read (α := Rd.Tok) ⟨[], ⟨[], [], false⟩⟩ Rd.Tok.cells (fun t => t.name.length ≤ 1048576 ∧ t.pat.text.length ≤ 1048576 ∧ t.pat.set.length ≤ 1048576) Tryz.underlying22 ct4 (by decide) (Nat.le_of_ble_eq_true (by kernel_rfl)) (fun _ => rfl) (fun k cs x h hf => tok_read h hf) h0 (fits_agg Tryz.underlying27 hf (j := 0) rfl rfl)
 obtain ⟨A2, c2, l2, e2, k2, q2, n2⟩ := slice_read (α := Rd.Pat) ⟨[], [], false⟩ Rd.Pat.cells (fun p => p.text.length ≤ 1048576 ∧ p.set.length ≤ 1048576) Tryz.underlying23 cp3 (by decide) (Nat.le_of_ble_eq_true (by kernel_rfl)) (fun _ => rfl) (fun k cs x h hf => pat_read h hf) h1 (fits_agg Tryz.underlying27 hf (j := 1) rfl rfl)
 obtain ⟨A3, c3, l3, e3, k3, q3, n3⟩ := slice_read (α := Rd.Lev × Value × Int) (⟨0, []⟩, .int .i64 0, 0) levC (LevOf W) Tryz.underlying24 cl2 (by decide) (Nat.le_of_ble_eq_true (by kernel_rfl)) (fun _ => rfl) (fun k cs x h hf => lev_read h hf) h2 (fits_agg Tryz.underlying27 hf (j := 2) rfl rfl)
 obtain ⟨t0, e0, b0⟩ := str_read h3 (fits_agg Tryz.underlying27 hf (j := 3) rfl rfl)
 obtain ⟨A4, c4, l4, e4, k4, q4, n4⟩ := slice_read (α := Rd.Rule × Value) (⟨[], [], [], []⟩, .int .i64 0) ruleCells (RuleOf W) Tryz.underlying25 cr4 (by decide) (Nat.le_of_ble_eq_true (by kernel_rfl)) (fun _ => rfl) (fun k cs x h hf => rule_read h hf) h4 (fits_agg Tryz.underlying27 hf (j := 4) rfl rfl)
 simp only [List.drop_zero, List.drop_succ_cons, List.take_succ_cons, List.take_zero, List.cons.injEq, and_true] at e0 e1 e2 e3 e4
 subst e0 e1 e2 e3 e4
 have hL3 : ∀ t ∈ l3.map (·.1), t.names.length ≤ 1048576 ∧ ∀ n ∈ t.names, n.length ≤ 1048576 := fun t ht => by
  obtain ⟨p, hp, rfl⟩ := List.mem_map.1 ht
  exact ⟨(q3 p hp).2.2.1, (q3 p hp).2.2.2⟩
 have hL4 : ∀ r ∈ l4.map (·.1), r.left.length ≤ 1048576 ∧ r.prec.length ≤ 1048576 ∧ r.action.length ≤ 1048576 ∧ r.right.length ≤ 1048576 ∧ ∀ n ∈ r.right, n.length ≤ 1048576 := fun t ht => by
  obtain ⟨p, hp, rfl⟩ := List.mem_map.1 ht
  exact (q4 p hp).2
 refine ⟨⟨l1, l2, l3.map (·.1), t0, l4.map (·.1)⟩, ⟨⟨⟨⟨A1, c1, A2, c2, A3, c3, A4, c4, l3, l4, by simp, k1, k2, k3, rfl, fun p hp => ⟨(q3 p hp).1, (q3 p hp).2.1⟩, k4, rfl, fun p hp => (q4 p hp).1⟩⟩, ?_⟩, ?_⟩, Nat.le_trans b0 (by decide)⟩
 ·have hR : 1048576 ≤ 140737488355328 := by decide
  refine ⟨Nat.le_trans n1 hR, Nat.le_trans n2 hR, by simpa using Nat.le_trans n3 hR, by simpa using Nat.le_trans n4 hR, fun t ht => ?_, fun t ht => ?_, fun t ht => ?_, Nat.le_trans b0 hR, fun t ht => ?_⟩
  ·obtain ⟨z1, z2, z3⟩ := q1 t ht
   exact ⟨Nat.le_trans z1 hR, Nat.le_trans z2 hR, Nat.le_trans z3 hR⟩
  ·obtain ⟨z1, z2⟩ := q2 t ht
   exact ⟨Nat.le_trans z1 hR, Nat.le_trans z2 hR⟩
  ·obtain ⟨z1, z2⟩ := hL3 t ht
   exact ⟨Nat.le_trans z1 hR, fun n hn => Nat.le_trans (z2 n hn) hR⟩
  ·obtain ⟨z1, z2, z3, z4, z5⟩ := hL4 t ht
   exact ⟨Nat.le_trans z1 hR, Nat.le_trans z2 hR, Nat.le_trans z3 hR, Nat.le_trans z4 hR, fun n hn => Nat.le_trans (z5 n hn) hR⟩
 ·have n3' : (l3.map (·.1)).length ≤ 1048576 := by simpa using n3
  have n4' : (l4.map (·.1)).length ≤ 1048576 := by simpa using n4
  have g1 := sum_bound9 Pr.tokN 3145728 l1 (fun t ht => by have := q1 t ht; unfold Pr.tokN; omega)
  have g2 := sum_bound9 Pr.patN 2097152 l2 (fun t ht => by have := q2 t ht; unfold Pr.patN; omega)
  have gn : ∀ l : List Rd.Name, l.length ≤ 1048576 → (∀ n ∈ l, n.length ≤ 1048576) → (l.map Pr.namN).sum ≤ 1099512676352 := fun l h1 h2 => by
   have h3 := sum_bound9 Pr.namN 1048577 l (fun n hn => by have := h2 n hn; unfold Pr.namN; omega)
   omega
  have g3 := sum_bound9 Pr.levN 1099512676352 (l3.map (·.1)) (fun t ht => gn _ (hL3 t ht).1 (hL3 t ht).2)
  have g4 := sum_bound9 Pr.rulN 1099515822080 (l4.map (·.1)) (fun t ht => by
   obtain ⟨z1, z2, z3, z4, z5⟩ := hL4 t ht
   have := gn _ z4 z5
   unfold Pr.rulN Pr.rulN0
   omega)
  unfold Pr.total Pr.cntN
  dsimp only
  omega
theorem open_gramU {base : Nat} {v : Value} {d : DataW H} {p : List MemPlace} (hv : Value.okWide Tryz.prog W .any base 27 v) (h : DataW.Trod enc Tryz.prog W 0 (fun _ => true) true 27 v d p) (hf : Fits d 27) :
  ∃ G : Rd.G, (GramC W W.heap.size v G ∧ Sz G) ∧ Pr.total G < 4611686018427387904 := by
 obtain ⟨G, h, _⟩ := open_gramU2 hv h hf
 exact ⟨G, h⟩
end
end Go.Proofs.YtpgmapjjjpcmfaaGreatDoor
