import Derived.Test.YtdhhkancbgealaaGreatT14
import Derived.Lib.Builder
import Derived.Lib.AppendStr
import Derived.Lib.UnsafeStr
namespace Go.Proofs.YtdhhkancbgealaaGreat
open Go.RowKit
open Lx
set_option linter.unusedVariables false
set_option linter.unusedSimpArgs false
set_option maxRecDepth 100000
namespace Sb
theorem lies_ : liesAt Tryz.prog Tryz.prog.depth 104 (2 / Tryz.prog.cellsOf 104) 0 104 1 = true := by kernel_rfl
theorem sizeBuilder_ : (Tryz.prog.info? 104).map (·.size) = some 2 := by kernel_rfl
theorem infoByte_ : (Tryz.prog.info? 5).map (fun i => (i.zero, i.size, i.bytes)) = some (some (.int .u8 0), 1, 1) := by kernel_rfl
def bcells (l : List UInt8) : List Value := l.map fun b => .int .u8 (b.toNat : Int)
theorem bcells_append (a b : List UInt8) : bcells (a ++ b) = bcells a ++ bcells b := by simp [bcells]
structure Bld (w : World) (B b : Nat) (l : List UInt8) : Prop where
 ex : ∃ p v, At w b 104 #[p, v] ∧ (p = .pointer none ∨ p = .pointer (some ⟨b, 0, none⟩)) ∧ w.ownsRow B 5 1 v l.length (bcells l)
 le : B ≤ b
theorem Bld.lt {w : World} {B b : Nat} {l : List UInt8} (h : Bld w B b l) : b < w.heap.size := by obtain ⟨p, v, h1, _⟩ := h.ex; exact h1.lt
theorem Bld.below {w w' : World} {B b : Nat} {l : List UInt8} (h : Bld w B b l) (hb : Below w.heap.size w w') : Bld w' B b l := by
 obtain ⟨p, v, h1, h2, h3⟩ := h.ex
 exact ⟨⟨p, v, h1.below hb h1.lt, h2, own_stay h3 (Stay.below hb)⟩, h.le⟩
theorem Bld.new (w : World) : Bld (w.alloc (.cells #[.pointer none, .slice none 0 0] 104)) w.heap.size w.heap.size [] :=
 ⟨⟨_, _, At.new _ _ _, .inl rfl, World.ownsRow_nil _ _ _ _⟩, Nat.le_refl _⟩
set_option maxHeartbeats 1000000 in
theorem copy_fresh (b : Nat) (v : Value) (w : World) (h : At w b 104 #[.pointer none, v]) :
  Calls Tryz.prog 78 #[.pointer (some ⟨b, 0, none⟩)] w fun e w' => e = .returned (.tuple #[]) ∧ w' = w.setCell ⟨b, 0, none⟩ (.pointer (some ⟨b, 0, none⟩)) := by
 obtain ⟨j, hj, hjs⟩ := Option.map_eq_some_iff.1 sizeBuilder_
 have h0 := h.cell 0
 have hfz := h.frozen 0
 have hsh : w.shape? b = some (104, 2) := by unfold At at h; simp [World.shape?, h]
 simp only [List.getElem?_toArray, List.getElem?_cons_zero] at h0
 go_enter Tryz.func78, Tryz.ntmps78
 go_wp2
 rw [Lib.run_to_unsafe w ⟨b, 0, none⟩ Tryz.underlying102 Tryz.underlying144 hj (by rw [hjs]; decide) hsh (Nat.zero_lt_succ 1)]
 simp only [Result.andThen]
 rw [Oper.upon_value]
 go_wp2
 rw [run_callFunc_extern Tryz.func89 (by kernel_rfl) (by kernel_rfl) (by kernel_rfl) (e := Extern.AbiNoEscape.same) (by kernel_rfl)]
 rw [Lib.run_noEscape]
 simp only [Result.andThen]
 rw [Oper.upon_value]
 go_wp2
 rw [Lib.run_from_unsafe w ⟨b, 0, none⟩ Tryz.underlying144 Tryz.underlying102 hj hsh lies_]
 simp only [Result.andThen]
 rw [Oper.upon_value]
 go_wp2
 go_end0
 exact ⟨rfl, rfl⟩
set_option maxHeartbeats 1000000 in
theorem copy_used (b : Nat) (v : Value) (w : World) (h : At w b 104 #[.pointer (some ⟨b, 0, none⟩), v]) :
  Calls Tryz.prog 78 #[.pointer (some ⟨b, 0, none⟩)] w fun e w' => e = .returned (.tuple #[]) ∧ w' = w := by
 obtain ⟨j, hj, hjs⟩ := Option.map_eq_some_iff.1 sizeBuilder_
 have h0 := h.cell 0
 simp only [List.getElem?_toArray, List.getElem?_cons_zero] at h0
 go_enter Tryz.func78, Tryz.ntmps78
 go_wp2
 rw [Lib.run_neq_ptr_same w _ Tryz.underlying102 hj]
 go_wp2
 go_end0
 exact ⟨rfl, rfl⟩
theorem cellsByte_ : Tryz.prog.cellsOf 5 = 1 := by kernel_rfl
set_option maxHeartbeats 2000000 in
theorem string_any (B b : Nat) (l : List UInt8) (w : World) (h : Bld w B b l) (h0 : l ≠ []) (hl : l.length ≤ 1000000000) :
  Calls Tryz.prog 60 #[.pointer (some ⟨b, 0, none⟩)] w fun e w' => e = .returned (.string (str l)) ∧ Below B w w' := by
 obtain ⟨p, v, h1, h2, h3⟩ := h.ex
 have hl0 : l.length ≠ 0 := by simpa using h0
 obtain ⟨g, cap, cur, rfl, hbg, hg, hnc, hcm, hcs, htake⟩ : ∃ g cap cur, v = .slice (some ⟨g, 0, none⟩) l.length cap ∧ B ≤ g ∧ w.heap[g]? = some (.cells cur 5 (0, 0)) ∧ l.length ≤ cap ∧ cap ≤ maxLen ∧ cur.size = cap * 1 ∧ cur.toList.take (l.length * 1) = bcells l := by
  rcases h3.2 with ⟨_, hz⟩ | ⟨g, cap, cur, hv, r⟩
  ·exact absurd hz hl0
  ·exact ⟨g, cap, cur, hv, r⟩
 have c1 := h1.drew.cell 1
 simp only [List.getElem?_toArray, List.getElem?_cons_zero, List.getElem?_cons_succ] at c1
 have hSD : (Builtin.unsafeSliceData_ #[22] 137 #[.slice (some ⟨g, 0, none⟩) l.length cap]).run Tryz.prog w.drew = .ok (.pointer (some ⟨g, 0, none⟩)) w.drew :=
  Lib.run_unsafeSliceData_row _ _ _ _ _ _ (by omega)
 have hUS : (Builtin.unsafeString_ #[137, 3] 9 #[.pointer (some ⟨g, 0, none⟩), .int .i64 l.length]).run Tryz.prog w.drew = .ok (.string ⟨l.toArray⟩) (w.drew.freeze ⟨g, 0, none⟩ l.length) := by
  refine Lib.run_unsafeString_row w.drew 137 3 9 5 Tryz.underlying137 cellsByte_ g cur.size (by have hg' : w.drew.heap[g]? = some (.cells cur 5 (0, 0)) := hg; simp [World.shape?, hg']) l h0 (by omega) (by omega) ?_
  intro j x hx
  have := h3.cells (g := g) rfl j (.int .u8 x.toNat) (by simp [bcells, hx])
  exact this
 go_enter Tryz.func60, Tryz.ntmps60
 go_wp2
 go_region
 all_goals (go_wp2; go_ret; exact ⟨rfl, Lib.below_freeze (Below.drew (Below.refl B w)) (p := ⟨g, 0, none⟩) hbg _⟩)
set_option maxHeartbeats 2000000 in
theorem string_none (B b : Nat) (w : World) (h : Bld w B b []) :
  Calls Tryz.prog 60 #[.pointer (some ⟨b, 0, none⟩)] w fun e w' => e = .returned (.string (str [])) ∧ Below B w w' := by
 obtain ⟨p, v, h1, h2, h3⟩ := h.ex
 obtain ⟨a, c, rfl⟩ := own_form h3
 have c1 := h1.drew.cell 1
 simp only [List.getElem?_toArray, List.getElem?_cons_zero, List.getElem?_cons_succ, List.length_nil] at c1
 have hBs : B ≤ w.heap.size := by have := h.le; have := h.lt; omega
 obtain ⟨p', w1, hSD, hb1, hw1⟩ : ∃ p' w1, (Builtin.unsafeSliceData_ #[22] 137 #[.slice a 0 c]).run Tryz.prog w.drew = .ok (.pointer p') w1 ∧ Below B w w1 ∧ Below w.heap.size w w1 := by
  cases a with
  | none => exact ⟨none, w.drew, Lib.run_unsafeSliceData_nil w.drew _ _ 0 c, Below.drew (Below.refl B w), Below.drew (Below.refl _ w)⟩
  | some a =>
   by_cases hc : c = 0
   ·subst hc
    rcases h3.2 with ⟨e, _⟩ | ⟨g, cap, cur, e, _, hg, _⟩
    ·cases e
    ·cases e
     have hsh : w.drew.shape? g = some (5, cur.size) := by
      have hg' : w.drew.heap[g]? = some (.cells cur 5 (0, 0)) := hg
      simp [World.shape?, hg']
     exact ⟨_, _, Lib.run_unsafeSliceData_zero w.drew _ _ _ Tryz.underlying137 ⟨g, 0, none⟩ 0 _ hsh, (Below.drew (Below.refl B w)).alloc hBs _, (Below.drew (Below.refl _ w)).alloc (Nat.le_refl _) _⟩
   ·exact ⟨some a, w.drew, Lib.run_unsafeSliceData_row w.drew _ _ a 0 c hc, Below.drew (Below.refl B w), Below.drew (Below.refl _ w)⟩
 have hUS := Lib.run_unsafeString_none (P := Tryz.prog) w1 137 3 9 p'
 have d1 := (h1.below hw1 h1.lt).cell 1
 simp only [List.getElem?_toArray, List.getElem?_cons_zero, List.getElem?_cons_succ, List.length_nil] at d1
 have HB1 := Lib.hid hb1
 clear h h1 h2 h3 hb1 hw1 hBs
 go_enter Tryz.func60, Tryz.ntmps60
 go_wp2
 go_region
 all_goals (go_wp2; go_ret; exact ⟨rfl, HB1.out⟩)
theorem string_all (B b : Nat) (l : List UInt8) (w : World) (h : Bld w B b l) (hl : l.length ≤ 1000000000) :
  Calls Tryz.prog 60 #[.pointer (some ⟨b, 0, none⟩)] w fun e w' => e = .returned (.string (str l)) ∧ Below B w w' := by
 by_cases h0 : l = []
 ·subst h0; exact string_none B b w h
 ·exact string_any B b l w h h0 hl
structure BldV (w : World) (B b : Nat) (v : Value) (l : List UInt8) : Prop where
 ex : ∃ p, At w b 104 #[p, v] ∧ (p = .pointer none ∨ p = .pointer (some ⟨b, 0, none⟩))
 row : w.ownsRow B 5 1 v l.length (bcells l)
theorem BldV.bld {w : World} {B b : Nat} {v : Value} {l : List UInt8} (h : BldV w B b v l) (hB : B ≤ b) : Bld w B b l := by
 obtain ⟨p, h1, h2⟩ := h.ex
 exact ⟨⟨p, v, h1, h2, h.row⟩, hB⟩
theorem BldV.new (w : World) (B : Nat) : BldV (w.alloc (.cells #[.pointer none, .slice none 0 0] 104)) B w.heap.size (.slice none 0 0) [] := ⟨⟨_, At.new _ _ _, .inl rfl⟩, World.ownsRow_nil _ _ _ _⟩
theorem BldV.keeps {w w' : World} {B b : Nat} {v : Value} {l : List UInt8} {T : List Nat} (h : BldV w B b v l) (hk : Keeps T w w') (hT : ∀ x ∈ T, x ≠ b ∧ v.ownBlock ≠ some x) : BldV w' B b v l := by
 obtain ⟨p, h1, h2⟩ := h.ex
 exact ⟨⟨p, h1.keeps hk (fun hm => (hT _ hm).1 rfl), h2⟩, own_keeps h.row hk (fun q hq hm => (hT q hm).2 hq)⟩
theorem BldV.lt {w : World} {B b : Nat} {v : Value} {l : List UInt8} (h : BldV w B b v l) : b < w.heap.size := by obtain ⟨p, h1, _⟩ := h.ex; exact h1.lt
theorem str_son {P : Program} {w w' : World} {base n : Nat} {t u ty e : TypeId} {i : TypeInfo} {v v' : Value} {xs : List Value} {s : ByteArray} (ht : P.underlying t = some (.slice e)) (hu : P.underlying u = some .string) (hi : P.info? e = some i) (hz : i.zero = some (.int .u8 0))
  (hsize : i.size = 1) (hby : i.bytes = 1) (hown : w.ownsRow base e 1 v n xs) (h63 : n + s.size ≤ maxLen) (hbytes : n + s.size ≤ 140737488355328) (hr : (Builtin.append_ #[t, u] ty #[v, .string s]).run P w = .ok v' w') : SameOrNew w v v' := by
 have hsmall : n + s.size ≤ 9223372036854775807 := by simp only [maxLen] at h63; omega
 have hxl : xs.length = n := by simpa using hown.1
 rcases hown.2 with ⟨rfl, rfl⟩ | ⟨g, cap, cur, rfl, hbg, hg, hnc, hcm, hcs, htake⟩
 ·have hx : xs = [] := List.eq_nil_of_length_eq_zero hxl
  subst hx
  obtain ⟨v2, w2, hr2, ho2, _⟩ := Lib.run_append_own_string (P := P) w w.heap.size t u ty e i ht hu hi hz hsize hby (.slice none 0 0) 0 [] (World.ownsRow_nil _ _ _ _) s h63 hbytes (Nat.le_refl _)
  rw [hr] at hr2
  cases hr2
  exact fun k hk => .inr (ho2.lt k hk).1
 ·have hcs' : cur.size = cap := by simpa using hcs
  by_cases hroom : n + s.size ≤ cap
  ·have hr2 := Lib.run_append_room_string (P := P) w t u ty e i ht hu hi hsize g n cap cur hg s hroom (by omega)
   rw [hr] at hr2
   cases hr2
   exact fun k hk => .inl hk
  ·have holds : ∀ j u, xs[j]? = some u → w.cell? ((⟨g, 0, none⟩ : Addr).add j) = some u := hown.cells (g := g) rfl
   have hr2 := Lib.run_append_grow_string (P := P) w t u ty e i (.int .u8 0) ht hu hi hz ⟨g, 0, none⟩ n cap xs (by rw [hsize]; simpa using hxl) holds s (by omega) (by omega) (by rw [hby]; exact growslice_fits (by omega) (by omega))
   rw [hr] at hr2
   cases hr2
   intro k hk
   simp [Value.ownBlock] at hk
   exact .inr (by omega)
theorem wpList_append_own_string2 {P : Program} (w : World) {ops : Array Oper} {rest : List Oper} {o : Oper} {a : Act} {Q : Exit → Act → World → Prop} (hgd : o.guard = none) (sl x : Operand) (t u : TypeId)
  (ho : o.op = .call { callee := .builtin .append, args := #[sl, x], argTypes := #[t, u] })
  (base : Nat) (e : TypeId) (i : TypeInfo) (ht : P.underlying t = some (.slice e)) (hu : P.underlying u = some .string) (hi : P.info? e = some i) (hz : i.zero = some (.int .u8 0))
  (hsize : i.size = 1) (hby : i.bytes = 1)
  (v : Value) (n : Nat) (xs : List Value) (hs : a.eval sl = v) (hown : w.ownsRow base e 1 v n xs) (s : ByteArray) (hx : a.eval x = .string s)
  (h63 : n + s.size ≤ maxLen) (hbytes : n + s.size ≤ 140737488355328) (hbase : base ≤ w.heap.size)
  (h : ∀ v' w', w'.ownsRow base e 1 v' (n + s.size) (xs ++ Lib.strCells s) → w.grownBy w' v.ownBlock → SameOrNew w v v' → wpList P ops Q rest (a.put o.dst v') w') : wpList P ops Q (o :: rest) a w := by
 refine wpList_plain hgd fun K hK => ?_
 obtain ⟨v', w', hr, h2, h3, h4⟩ := Lib.run_append_own_string (P := P) w base t u o.type e i ht hu hi hz hsize hby v n xs hown s h63 hbytes hbase
 have h5 := str_son ht hu hi hz hsize hby hown h63 hbytes hr
 unfold Oper.wp execOp
 simp only [ho, resolve, invoke, builtin, Sem.run_bind, Sem.run_pure, Result.andThen_ok, List.map_toArray, List.map_cons, List.map_nil, hs, hx, hr]
 exact hK _ _ (h v' w' h2 h3 h5)
theorem copyV (B b : Nat) (v : Value) (l : List UInt8) (w : World) (h : BldV w B b v l) :
  Calls Tryz.prog 78 #[.pointer (some ⟨b, 0, none⟩)] w fun e w' => e = .returned (.tuple #[]) ∧ Keeps [b] w w' ∧ At w' b 104 #[.pointer (some ⟨b, 0, none⟩), v] ∧ w'.ownsRow B 5 1 v l.length (bcells l) := by
 obtain ⟨p, h1, h2⟩ := h.ex
 rcases h2 with rfl | rfl
 ·refine (copy_fresh b v w h1).mono ?_
  rintro e w' ⟨rfl, rfl⟩
  have hk : Keeps [b] w (w.setCell ⟨b, 0, none⟩ (.pointer (some ⟨b, 0, none⟩))) := (Keeps.refl _ _).set (.inl (by simp)) _
  have hva := own_apart h.row h1 (by decide)
  exact ⟨rfl, hk, by simpa using h1.set 0 (.pointer (some ⟨b, 0, none⟩)), own_keeps h.row hk (fun q hq hm => hva (by simp at hm; rw [hq, hm]))⟩
 ·refine (copy_used b v w h1).mono ?_
  rintro e w' ⟨rfl, rfl⟩
  exact ⟨rfl, Keeps.refl _ _, h1, h.row⟩
set_option maxHeartbeats 2000000 in
theorem wbyteV (B b : Nat) (v : Value) (l : List UInt8) (c : UInt8) (w : World) (h : BldV w B b v l) (hl : l.length ≤ 1000000000) (hBw : B ≤ w.heap.size) :
  Calls Tryz.prog 56 #[.pointer (some ⟨b, 0, none⟩), .int .u8 (c.toNat : Int)] w fun e w' => e = .returned .nilIface ∧ ∃ v', BldV w' B b v' (l ++ [c]) ∧ Keeps (b :: v.ownBlock.toList) w w' ∧ SameOrNew w v v' := by
 obtain ⟨i0, hi, hz0, hz1, hz2⟩ := info_parts infoByte_
 obtain ⟨a, cp, rfl⟩ := own_form h.row
 have HV := Lib.hid h
 obtain ⟨cc, hcc⟩ : ∃ cc : Int, (c.toNat : Int) = cc := ⟨_, rfl⟩
 rw [hcc]
 have HC := Lib.hid hcc
 clear hcc h
 go_enter Tryz.func56, Tryz.ntmps56
 go_wp2_with fail
 refine (copyV B b _ l _ HV.out).mono ?_
 rintro e w1 ⟨rfl, hk1, h1, hown⟩
 have HK1 := Lib.hid hk1
 have HAT := Lib.hid h1
 have HO := Lib.hid hown
 have hlt := h1.lt
 have hs1 := hk1.size
 clear hk1 h1 hown
 have c0 := HAT.out.cell 0
 have c1 := HAT.out.cell 1
 simp only [List.getElem?_toArray, List.getElem?_cons_zero, List.getElem?_cons_succ] at c0 c1
 have hc3 : l.length + 1 ≤ maxLen := by unfold maxLen; omega
 have hc4 : (l.length + 1) * 1 ≤ 140737488355328 := by omega
 go_wp2_with (at_builtin; refine wpList_append_own2 _ rfl _ _ 22 rfl B 5 i0 _ 1 1 Tryz.underlying22 hi hz0 hz1 hz2 rfl (by decide) _ _ _ rfl (HO.out.alloc _) ⟨w1.heap.size, 0, none⟩ 1 1 [.int .u8 cc] rfl rfl (cells_new _ _ _) (by simp [Value.oneCell']) hc3 hc4 (by simp; omega) ?_)
 intro v' w2 hown' hg hn
 obtain ⟨a7, s7, rfl⟩ := own_form hown'
 have hA2 := At.grown (HAT.out.alloc _) hg (fun e => own_apart HO.out HAT.out (by decide) e.symm)
 have HA2 := Lib.hid hA2
 have d1 := hA2.cell 1
 have df := hA2.frozen
 simp only [List.getElem?_toArray, List.getElem?_cons_zero, List.getElem?_cons_succ] at d1
 have HN := Lib.hid hown'
 have HK2 := Lib.hid (((HK1.out.mono (S' := b :: (Value.slice a l.length cp).ownBlock.toList) (fun x hx => .inl (by simp at hx; simp [hx]))).alloc _).grown hg (fun q hq => .inl (by simp [hq])))
 have HSN := Lib.hid (show SameOrNew w (Value.slice a l.length cp) (Value.slice a7 (l.length + 1) s7) from fun q hq => by
  rcases hn q hq with h | h
  ·exact .inl h
  ·simp at h; exact .inr (by omega))
 clear hA2 hown' hg hn
 go_wp2_with fail
 go_ret
 have hva := own_apart HN.out HA2.out (by decide)
 refine ⟨rfl, _, ⟨⟨_, by simpa using HA2.out.set 1 (.slice a7 (l.length + 1) s7), .inr rfl⟩, ?_⟩, HK2.out.set (.inl (by simp)) _, HSN.out⟩
 rw [bcells_append, List.length_append]
 have e : bcells [c] = [.int .u8 cc] := by simp [bcells, HC.out]
 rw [e]
 exact own_keeps HN.out ((Keeps.refl [b] w2).set (.inl (by simp)) _) (fun q hq hm => hva (by simp at hm; rw [hq, hm]))
set_option maxHeartbeats 2000000 in
theorem wstrV (B b : Nat) (v : Value) (l : List UInt8) (s : ByteArray) (w : World) (h : BldV w B b v l) (hl : l.length ≤ 1000000000) (hs : s.size ≤ 1000000000) (hBw : B ≤ w.heap.size) :
  Calls Tryz.prog 57 #[.pointer (some ⟨b, 0, none⟩), .string s] w fun e w' => e = .returned (.tuple #[.int .i64 (s.size : Int), .nilIface]) ∧ ∃ v', BldV w' B b v' (l ++ bl s) ∧ Keeps (b :: v.ownBlock.toList) w w' ∧ SameOrNew w v v' := by
 obtain ⟨i0, hi, hz0, hz1, hz2⟩ := info_parts infoByte_
 obtain ⟨a, cp, rfl⟩ := own_form h.row
 have HV := Lib.hid h
 clear h
 go_enter Tryz.func57, Tryz.ntmps57
 go_wp2_with fail
 refine (copyV B b _ l _ HV.out).mono ?_
 rintro e w1 ⟨rfl, hk1, h1, hown⟩
 have HK1 := Lib.hid hk1
 have HAT := Lib.hid h1
 have HO := Lib.hid hown
 have hlt := h1.lt
 have hs1 := hk1.size
 clear hk1 h1 hown
 have c0 := HAT.out.cell 0
 have c1 := HAT.out.cell 1
 simp only [List.getElem?_toArray, List.getElem?_cons_zero, List.getElem?_cons_succ] at c0 c1
 have hc3 : l.length + s.size ≤ maxLen := by unfold maxLen; omega
 go_wp2_with (at_builtin; refine wpList_append_own_string2 _ rfl _ _ 22 9 rfl B 5 i0 Tryz.underlying22 Tryz.underlying9 hi hz0 hz1 hz2 _ _ _ rfl HO.out s rfl hc3 (by omega) (by omega) ?_)
 intro v' w2 hown' hg hn
 obtain ⟨a7, s7, rfl⟩ := own_form hown'
 have hA2 := At.grown HAT.out hg (fun e => own_apart HO.out HAT.out (by decide) e.symm)
 have HA2 := Lib.hid hA2
 have d1 := hA2.cell 1
 have df := hA2.frozen
 simp only [List.getElem?_toArray, List.getElem?_cons_zero, List.getElem?_cons_succ] at d1
 have HN := Lib.hid hown'
 have HK2 := Lib.hid ((HK1.out.mono (S' := b :: (Value.slice a l.length cp).ownBlock.toList) (fun x hx => .inl (by simp at hx; simp [hx]))).grown hg (fun q hq => .inl (by simp [hq])))
 have HSN := Lib.hid (show SameOrNew w (Value.slice a l.length cp) (Value.slice a7 (l.length + s.size) s7) from fun q hq => by
  rcases hn q hq with h | h
  ·exact .inl h
  ·exact .inr (by omega))
 clear hA2 hown' hg hn
 go_wp2_with fail
 go_ret2
 have hva := own_apart HN.out HA2.out (by decide)
 refine ⟨rfl, _, ⟨⟨_, by simpa using HA2.out.set 1 (.slice a7 (l.length + s.size) s7), .inr rfl⟩, ?_⟩, HK2.out.set (.inl (by simp)) _, HSN.out⟩
 rw [bcells_append, List.length_append]
 have e : bcells (bl s) = Lib.strCells s := rfl
 rw [e, bl_length]
 exact own_keeps HN.out ((Keeps.refl [b] w2).set (.inl (by simp)) _) (fun q hq hm => hva (by simp at hm; rw [hq, hm]))
end Sb
end Go.Proofs.YtdhhkancbgealaaGreat
