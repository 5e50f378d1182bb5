/-
  A strings.Builder inside a printer.lines: contracts of copyCheck, WriteByte, WriteString, String, Len.
  The walks of printer's escaped and Pattern.
-/
import Derived.Test.YtpgmapjjjpcmfaaGreatDoorRdAF
import Derived.Lib.Builder
import Derived.Lib.AppendStr
import Derived.Lib.UnsafeStr
import Derived.Test.YtpgmapjjjpcmfaaGreatDoorPrU
namespace Go.Proofs.YtpgmapjjjpcmfaaGreatDoor
open Go.RowKit
open Lx
set_option linter.unusedVariables false
set_option linter.unusedSimpArgs false
set_option maxRecDepth 100000

theorem Tryz.lies : liesAt Tryz.prog Tryz.prog.depth 56 (2 / Tryz.prog.cellsOf 56) 0 54 1 = true := by kernel_rfl
theorem Tryz.sizeBuilder : (Tryz.prog.info? 54).map (·.size) = some 2 := by kernel_rfl
theorem Tryz.infoByte : (Tryz.prog.info? 5).map (fun i => (i.zero, i.size, i.bytes)) = some (some (.int .u8 0), 1, 1) := by kernel_rfl

def bcells (l : List UInt8) : List Value := l.map fun b => .int .u8 (b.toNat : Int)
theorem bcells_append (a b : List UInt8) : bcells (a ++ b) = bcells a ++ bcells b := by simp [bcells]
theorem bcells_len (a : List UInt8) : (bcells a).length = a.length := by simp [bcells]

/-- The builder in block b holds the bytes l; what it has made lies from B on. -/
structure Bld (w : World) (B b : Nat) (l : List UInt8) : Prop where
  ex : ∃ p v, At w b 56 #[p, v] ∧ (p = .pointer none ∨ p = .pointer (some ⟨b, 0, none⟩)) ∧ w.ownsRow B 5 1 v l.length (bcells l)
  le : B ≤ b
theorem Bld.lt {w : World} {B b : Nat} {l : List UInt8} (h : Bld w B b l) : b < w.heap.size := by obtain ⟨p, v, h1, _⟩ := h.ex; exact h1.lt
theorem Bld.below {w w' : World} {B b : Nat} {l : List UInt8} (h : Bld w B b l) (hb : Below w.heap.size w w') : Bld w' B b l := by
  obtain ⟨p, v, h1, h2, h3⟩ := h.ex
  exact ⟨⟨p, v, h1.below hb h1.lt, h2, own_stay h3 (Stay.below hb)⟩, h.le⟩
theorem Bld.new (w : World) : Bld (w.alloc (.cells #[.pointer none, .slice none 0 0] 56)) w.heap.size w.heap.size [] :=
  ⟨⟨_, _, At.new _ _ _, .inl rfl, World.ownsRow_nil _ _ _ _⟩, Nat.le_refl _⟩

set_option maxHeartbeats 1000000 in
theorem copy_fresh (b : Nat) (v : Value) (w : World) (h : At w b 56 #[.pointer none, v]) :
    Calls Tryz.prog 72 #[.pointer (some ⟨b, 0, none⟩)] w fun e w' => e = .returned (.tuple #[]) ∧ w' = w.setCell ⟨b, 0, none⟩ (.pointer (some ⟨b, 0, none⟩)) := by
  obtain ⟨j, hj, hjs⟩ := Option.map_eq_some_iff.1 Tryz.sizeBuilder
  have h0 := h.cell 0
  have hfz := h.frozen 0
  have hsh : w.shape? b = some (56, 2) := by unfold At at h; simp [World.shape?, h]
  simp only [List.getElem?_toArray, List.getElem?_cons_zero] at h0
  go_enter Tryz.func72, Tryz.ntmps72
  go_wp2
  rw [Lib.run_to_unsafe w ⟨b, 0, none⟩ Tryz.underlying51 Tryz.underlying125 hj (by rw [hjs]; decide) hsh (Nat.zero_lt_succ 1)]
  simp only [Result.andThen]
  rw [Oper.upon_value]
  go_wp2
  rw [run_callFunc_extern Tryz.func91 (by kernel_rfl) (by kernel_rfl) (by kernel_rfl) (e := Extern.AbiNoEscape.same) (by kernel_rfl)]
  rw [Lib.run_noEscape]
  simp only [Result.andThen]
  rw [Oper.upon_value]
  go_wp2
  rw [Lib.run_from_unsafe w ⟨b, 0, none⟩ Tryz.underlying125 Tryz.underlying51 hj hsh Tryz.lies]
  simp only [Result.andThen]
  rw [Oper.upon_value]
  go_wp2
  go_end0
  exact ⟨rfl, rfl⟩
set_option maxHeartbeats 1000000 in
theorem copy_used (b : Nat) (v : Value) (w : World) (h : At w b 56 #[.pointer (some ⟨b, 0, none⟩), v]) :
    Calls Tryz.prog 72 #[.pointer (some ⟨b, 0, none⟩)] w fun e w' => e = .returned (.tuple #[]) ∧ w' = w := by
  obtain ⟨j, hj, hjs⟩ := Option.map_eq_some_iff.1 Tryz.sizeBuilder
  have h0 := h.cell 0
  simp only [List.getElem?_toArray, List.getElem?_cons_zero] at h0
  go_enter Tryz.func72, Tryz.ntmps72
  go_wp2
  rw [Lib.run_neq_ptr_same w _ Tryz.underlying51 hj]
  go_wp2
  go_end0
  exact ⟨rfl, rfl⟩
/-- Behind copyCheck the builder knows its own place. -/
theorem copy_any (B b : Nat) (l : List UInt8) (w : World) (h : Bld w B b l) :
    Calls Tryz.prog 72 #[.pointer (some ⟨b, 0, none⟩)] w fun e w' => e = .returned (.tuple #[]) ∧ Below B w w' ∧ w.heap.size ≤ w'.heap.size ∧ (∀ t, t ≠ 56 → Stay t w w') ∧ ∃ v, At w' b 56 #[.pointer (some ⟨b, 0, none⟩), v] ∧ w'.ownsRow B 5 1 v l.length (bcells l) := by
  obtain ⟨p, v, h1, h2, h3⟩ := h.ex
  rcases h2 with rfl | rfl
  · refine (copy_fresh b v w h1).mono ?_
    rintro e w' ⟨rfl, rfl⟩
    refine ⟨rfl, (Below.refl B w).setCell (p := ⟨b, 0, none⟩) h.le _, by simp [World.setCell], fun t ht => Stay.far h1 ht (grown_set (grown_refl _ _) 0 _), v, by simpa using h1.set 0 (.pointer (some ⟨b, 0, none⟩)), ?_⟩
    exact own_stay h3 (Stay.far h1 (by decide) (grown_set (grown_refl _ _) 0 _))
  · refine (copy_used b v w h1).mono ?_
    rintro e w' ⟨rfl, rfl⟩
    exact ⟨rfl, Below.refl _ _, Nat.le_refl _, fun t _ => Stay.refl _ _, v, h1, h3⟩

set_option maxHeartbeats 1000000 in
theorem len_any (B b : Nat) (l : List UInt8) (w : World) (h : Bld w B b l) :
    Calls Tryz.prog 21 #[.pointer (some ⟨b, 0, none⟩)] w fun e w' => e = .returned (.int .i64 (l.length : Int)) ∧ w' = w := by
  obtain ⟨p, v, h1, h2, h3⟩ := h.ex
  obtain ⟨a, cap, rfl⟩ := own_form h3
  have c1 := h1.cell 1
  simp only [List.getElem?_toArray, List.getElem?_cons_zero, List.getElem?_cons_succ] at c1
  go_enter Tryz.func21, Tryz.ntmps21
  go_wp2
  go_ret
  exact ⟨rfl, rfl⟩

theorem bld_put {B b : Nat} {l : List UInt8} {v v' : Value} {w w2 : World} (hw : World) (h1 : At w b 56 #[.pointer (some ⟨b, 0, none⟩), v]) (hB : B ≤ b) (hown : w2.ownsRow B 5 1 v' l.length (bcells l))
    (h2 : At w2 b 56 #[.pointer (some ⟨b, 0, none⟩), v]) : Bld (w2.setCell ⟨b, 1, none⟩ v') B b l :=
  ⟨⟨_, v', by simpa using h2.set 1 v', .inr rfl, own_stay hown (Stay.far h2 (by decide) (grown_set (grown_refl _ _) 1 _))⟩, hB⟩

set_option maxHeartbeats 2000000 in
theorem wbyte_full (B b : Nat) (l : List UInt8) (c : UInt8) (w : World) (h : Bld w B b l) (hl : l.length ≤ 1000000000) (hBw : B ≤ w.heap.size) :
    Calls Tryz.prog 38 #[.pointer (some ⟨b, 0, none⟩), .int .u8 (c.toNat : Int)] w fun e w' => e = .returned .nilIface ∧ Bld w' B b (l ++ [c]) ∧ Below B w w' ∧ (∀ t, t ≠ 56 → t ≠ 5 → Stay t w w') := by
  obtain ⟨i0, hi, hz0, hz1, hz2⟩ := info_parts Tryz.infoByte
  have hle := h.le
  obtain ⟨cc, hcc⟩ : ∃ cc : Int, (c.toNat : Int) = cc := ⟨_, rfl⟩
  rw [hcc]
  have HC := Lib.hid hcc
  clear hcc
  go_enter Tryz.func38, Tryz.ntmps38
  go_wp2_with fail
  refine (copy_any B b l _ h).mono ?_
  rintro e w1 ⟨rfl, hb1, hs1, hst1, v, h1, hown⟩
  have HST1 := Lib.hid hst1
  have HB1 := Lib.hid hb1
  have HAT := Lib.hid h1
  have HO := Lib.hid hown
  have hlt := h1.lt
  clear hb1 h1 hown hst1
  have c0 := HAT.out.cell 0
  have c1 := HAT.out.cell 1
  simp only [List.getElem?_toArray, List.getElem?_cons_zero, List.getElem?_cons_succ] at c0 c1
  have hc3 : l.length + 1 ≤ maxLen := by unfold maxLen; omega
  have hc4 : (l.length + 1) * 1 ≤ 140737488355328 := by omega
  go_wp2_with (at_builtin; refine wpList_append_own2 _ rfl _ _ 52 rfl B 5 i0 _ 1 1 Tryz.underlying52 hi hz0 hz1 hz2 rfl (by decide) _ _ _ rfl (HO.out.alloc _) ⟨w1.heap.size, 0, none⟩ 1 1 [.int .u8 cc] rfl rfl (cells_new _ _ _) (by simp [Value.oneCell']) hc3 hc4 (by simp; omega) ?_)
  intro v' w2 hown' hg hn
  obtain ⟨a7, s7, rfl⟩ := own_form hown'
  have hA2 := At.grown (HAT.out.alloc _) hg (fun e => own_apart HO.out HAT.out (by decide) e.symm)
  have HA2 := Lib.hid hA2
  have d1 := hA2.cell 1
  have df := hA2.frozen
  simp only [List.getElem?_toArray, List.getElem?_cons_zero, List.getElem?_cons_succ] at d1
  have HN := Lib.hid hown'
  have HB2 := Lib.hid (Below.grown (HB1.out.alloc (by omega) _) hg (by simp; omega) (fun j hj => (own_lt HO.out j hj).1))
  have HST2 := Lib.hid (show ∀ t, t ≠ 56 → t ≠ 5 → Stay t w w2 from fun t h1 h2 => ((HST1.out t h1).trans (Stay.below ((Below.refl _ _).alloc (Nat.le_refl _) _))).trans (Stay.own (HO.out.alloc _) h2 hg))
  clear hA2 hown' hg hn
  go_wp2_with fail
  go_ret
  refine ⟨rfl, ?_, HB2.out.setCell (p := ⟨b, 1, none⟩) hle _, fun t h1 h2 => (HST2.out t h1 h2).trans (Stay.far HA2.out h1 (grown_set (grown_refl _ _) 1 _))⟩
  refine bld_put w HAT.out hle ?_ HA2.out
  rw [bcells_append, List.length_append]
  have e : bcells [c] = [.int .u8 cc] := by simp [bcells, HC.out]
  rw [e]
  exact HN.out

set_option maxHeartbeats 2000000 in
theorem wstr_full (B b : Nat) (l : List UInt8) (s : ByteArray) (w : World) (h : Bld w B b l) (hl : l.length ≤ 1000000000) (hs : s.size ≤ 1000000000) (hBw : B ≤ w.heap.size) :
    Calls Tryz.prog 58 #[.pointer (some ⟨b, 0, none⟩), .string s] w fun e w' => e = .returned (.tuple #[.int .i64 (s.size : Int), .nilIface]) ∧ Bld w' B b (l ++ bl s) ∧ Below B w w' ∧ (∀ t, t ≠ 56 → t ≠ 5 → Stay t w w') := by
  obtain ⟨i0, hi, hz0, hz1, hz2⟩ := info_parts Tryz.infoByte
  have hle := h.le
  go_enter Tryz.func58, Tryz.ntmps58
  go_wp2_with fail
  refine (copy_any B b l _ h).mono ?_
  rintro e w1 ⟨rfl, hb1, hs1, hst1, v, h1, hown⟩
  have HST1 := Lib.hid hst1
  have HB1 := Lib.hid hb1
  have HAT := Lib.hid h1
  have HO := Lib.hid hown
  have hlt := h1.lt
  clear hb1 h1 hown hst1
  have c0 := HAT.out.cell 0
  have c1 := HAT.out.cell 1
  simp only [List.getElem?_toArray, List.getElem?_cons_zero, List.getElem?_cons_succ] at c0 c1
  have hc3 : l.length + s.size ≤ maxLen := by unfold maxLen; omega
  go_wp2_with (at_builtin; refine Lib.wpList_append_own_string _ rfl _ _ 52 9 rfl B 5 i0 Tryz.underlying52 Tryz.underlying9 hi hz0 hz1 hz2 _ _ _ rfl HO.out s rfl hc3 (by omega) (by omega) ?_)
  intro v' w2 hown' hg hn
  obtain ⟨a7, s7, rfl⟩ := own_form hown'
  have hA2 := At.grown HAT.out hg (fun e => own_apart HO.out HAT.out (by decide) e.symm)
  have HA2 := Lib.hid hA2
  have d1 := hA2.cell 1
  have df := hA2.frozen
  simp only [List.getElem?_toArray, List.getElem?_cons_zero, List.getElem?_cons_succ] at d1
  have HN := Lib.hid hown'
  have HB2 := Lib.hid (Below.grown HB1.out hg (by omega) (fun j hj => (own_lt HO.out j hj).1))
  have HST2 := Lib.hid (show ∀ t, t ≠ 56 → t ≠ 5 → Stay t w w2 from fun t h1 h2 => (HST1.out t h1).trans (Stay.own HO.out h2 hg))
  clear hA2 hown' hg hn
  go_wp2_with fail
  go_ret2
  refine ⟨rfl, ?_, HB2.out.setCell (p := ⟨b, 1, none⟩) hle _, fun t h1 h2 => (HST2.out t h1 h2).trans (Stay.far HA2.out h1 (grown_set (grown_refl _ _) 1 _))⟩
  refine bld_put w HAT.out hle ?_ HA2.out
  rw [bcells_append, List.length_append]
  have e : bcells (bl s) = Lib.strCells s := rfl
  rw [e, bl_length]
  exact HN.out

theorem wbyte_any (B b : Nat) (l : List UInt8) (c : UInt8) (w : World) (h : Bld w B b l) (hl : l.length ≤ 1000000000) (hBw : B ≤ w.heap.size) :
    Calls Tryz.prog 38 #[.pointer (some ⟨b, 0, none⟩), .int .u8 (c.toNat : Int)] w fun e w' => e = .returned .nilIface ∧ Bld w' B b (l ++ [c]) ∧ Below B w w' :=
  (wbyte_full B b l c w h hl hBw).mono fun e w' ⟨h1, h2, h3, _⟩ => ⟨h1, h2, h3⟩
theorem wstr_any (B b : Nat) (l : List UInt8) (s : ByteArray) (w : World) (h : Bld w B b l) (hl : l.length ≤ 1000000000) (hs : s.size ≤ 1000000000) (hBw : B ≤ w.heap.size) :
    Calls Tryz.prog 58 #[.pointer (some ⟨b, 0, none⟩), .string s] w fun e w' => e = .returned (.tuple #[.int .i64 (s.size : Int), .nilIface]) ∧ Bld w' B b (l ++ bl s) ∧ Below B w w' :=
  (wstr_full B b l s w h hl hs hBw).mono fun e w' ⟨h1, h2, h3, _⟩ => ⟨h1, h2, h3⟩

theorem Tryz.cellsByte : Tryz.prog.cellsOf 5 = 1 := by kernel_rfl
set_option maxHeartbeats 2000000 in
theorem string_any (B b : Nat) (l : List UInt8) (w : World) (h : Bld w B b l) (h0 : l ≠ []) (hl : l.length ≤ 1000000000) :
    Calls Tryz.prog 22 #[.pointer (some ⟨b, 0, none⟩)] w fun e w' => e = .returned (.string (str l)) ∧ Below B w w' := by
  obtain ⟨p, v, h1, h2, h3⟩ := h.ex
  have hl0 : l.length ≠ 0 := by simpa using h0
  obtain ⟨g, cap, cur, rfl, hbg, hg, hnc, hcm, hcs, htake⟩ : ∃ g cap cur, v = .slice (some ⟨g, 0, none⟩) l.length cap ∧ B ≤ g ∧ w.heap[g]? = some (.cells cur 5 (0, 0)) ∧ l.length ≤ cap ∧ cap ≤ maxLen ∧ cur.size = cap * 1 ∧ cur.toList.take (l.length * 1) = bcells l := by
    rcases h3.2 with ⟨_, hz⟩ | ⟨g, cap, cur, hv, r⟩
    · exact absurd hz hl0
    · exact ⟨g, cap, cur, hv, r⟩
  have c1 := h1.drew.cell 1
  simp only [List.getElem?_toArray, List.getElem?_cons_zero, List.getElem?_cons_succ] at c1
  have hSD : (Builtin.unsafeSliceData_ #[52] 104 #[.slice (some ⟨g, 0, none⟩) l.length cap]).run Tryz.prog w.drew = .ok (.pointer (some ⟨g, 0, none⟩)) w.drew :=
    Lib.run_unsafeSliceData_row _ _ _ _ _ _ (by omega)
  have hUS : (Builtin.unsafeString_ #[104, 3] 9 #[.pointer (some ⟨g, 0, none⟩), .int .i64 l.length]).run Tryz.prog w.drew = .ok (.string ⟨l.toArray⟩) (w.drew.freeze ⟨g, 0, none⟩ l.length) := by
    refine Lib.run_unsafeString_row w.drew 104 3 9 5 Tryz.underlying104 Tryz.cellsByte g cur.size (by have hg' : w.drew.heap[g]? = some (.cells cur 5 (0, 0)) := hg; simp [World.shape?, hg']) l h0 (by omega) (by omega) ?_
    intro j x hx
    have := h3.cells (g := g) rfl j (.int .u8 x.toNat) (by simp [bcells, hx])
    exact this
  go_enter Tryz.func22, Tryz.ntmps22
  go_wp2
  go_region
  all_goals (go_wp2; go_ret; exact ⟨rfl, Lib.below_freeze (Below.drew (Below.refl B w)) (p := ⟨g, 0, none⟩) hbg _⟩)

end Go.Proofs.YtpgmapjjjpcmfaaGreatDoor

namespace Go.Proofs.YtpgmapjjjpcmfaaGreatDoor
open Go.RowKit
open Lx
set_option linter.unusedVariables false
set_option linter.unusedSimpArgs false
set_option maxRecDepth 100000

theorem indexOf_any (s : ByteArray) (c : Int) (w : World) :
    Calls Tryz.prog 73 #[.string s, .int .u8 c] w fun e w' => e = .returned (.int .i64 (Lib.indexByte s.data.toList c.toNat.toUInt8)) ∧ w = w' := by
  go_enter Tryz.func73, Tryz.ntmps73
  go_wp2_with fail
  refine (indexByte_any s c w).mono ?_
  rintro e w' ⟨rfl, rfl⟩
  go_wp2_with fail
  go_ret
  exact ⟨rfl, rfl⟩

set_option maxHeartbeats 2000000 in
theorem pesc_any (q : UInt8 → Bool) (some_ : ByteArray) (hq : ∀ c : UInt8, decide ((0 : Int) ≤ Lib.indexByte some_.data.toList c) = q c) (B b : Nat) (l : List UInt8) (s : ByteArray) (w : World) (h : Bld w B b l) (hl : l.length ≤ 1000000) (hs : s.size ≤ 1000000) (hBw : B ≤ w.heap.size) :
    Calls Tryz.prog 39 #[.pointer (some ⟨b, 0, none⟩), .string s, .string some_] w fun e w' => e = .returned (.tuple #[]) ∧ Bld w' B b (l ++ Pr.esc q (bl s)) ∧ Below B w w' := by
  have H := Lib.hid h
  clear h
  have HQ := Lib.hid hq
  clear hq
  go_enter Tryz.func39, Tryz.ntmps39
  go_wp2_with fail
  go_loopw [10] (fun i wr => ∃ k : Nat, k ≤ s.size ∧ i = .int .i64 (k : Int) ∧ Bld wr B b (l ++ Pr.esc q ((bl s).take k)) ∧ Below B w wr) (fun i _ => s.size - (intOf i).toNat)
  case atStart => exact ⟨0, by omega, rfl, by simpa [Pr.esc] using H.out, Below.refl _ _⟩
  case round =>
    obtain ⟨k, hk, rfl, hbd, hbe⟩ := hrel
    have HBD := Lib.hid hbd
    have HBE := Lib.hid hbe
    have hsz : B ≤ wr.heap.size := by have := hbe.size; omega
    clear hbd hbe
    by_cases hlt : k < s.size
    · have HT := Lib.hid (bl_take s k hlt)
      obtain ⟨L, hL⟩ : ∃ L, l ++ Pr.esc q ((bl s).take k) = L := ⟨_, rfl⟩
      have hLl : L.length ≤ 10000000 := by
        rw [← hL, List.length_append]
        have h1 := Pr.esc_len q ((bl s).take k)
        have h2 := List.length_take_le k (bl s)
        omega
      rw [hL] at HBD
      have hnx : ∀ x, Pr.esc q [s[k]] = x → l ++ Pr.esc q ((bl s).take (k + 1)) = L ++ x := fun x hx => by
        rw [HT.out, Pr.esc_append, ← List.append_assoc, hL, hx]
      have HNX := Lib.hid hnx
      have HL := Lib.hid hL
      clear hL hnx
      have hki : (k : Int) < (s.size : Int) := by omega
      have hk0 : (0 : Int) ≤ (k : Int) := by omega
      by_cases e1 : s[k] = 10
      · have c1 : ((s[k].toNat : Int) == 10) = true := u8_is e1
        have HE := Lib.hid e1
        clear e1
        go_wp2_with fail
        refine (wstr_any B b L _ _ HBD.out (by omega) (by decide) hsz).mono ?_
        rintro e w2 ⟨rfl, hb2, hw2⟩
        have HB2 := Lib.hid hb2
        have HW2 := Lib.hid hw2
        clear hb2 hw2
        go_wp2_with fail
        go_roundw
        case rel => exact ⟨k + 1, by omega, by go_num, by rw [HNX.out [92, 110] (by rw [HE.out]; rfl)]; exact HB2.out, HBE.out.trans HW2.out⟩
        case measure => simp [intOf]; omega
      · have c1 : ((s[k].toNat : Int) == 10) = false := u8_ne e1
        by_cases e2 : s[k] = 9
        · have c2 : ((s[k].toNat : Int) == 9) = true := u8_is e2
          have HE := Lib.hid e2
          clear e1 e2
          go_wp2_with fail
          refine (wstr_any B b L _ _ HBD.out (by omega) (by decide) hsz).mono ?_
          rintro e w2 ⟨rfl, hb2, hw2⟩
          have HB2 := Lib.hid hb2
          have HW2 := Lib.hid hw2
          clear hb2 hw2
          go_wp2_with fail
          go_roundw
          case rel => exact ⟨k + 1, by omega, by go_num, by rw [HNX.out [92, 116] (by rw [HE.out]; rfl)]; exact HB2.out, HBE.out.trans HW2.out⟩
          case measure => simp [intOf]; omega
        · have c2 : ((s[k].toNat : Int) == 9) = false := u8_ne e2
          have HE1 := Lib.hid e1
          have HE2 := Lib.hid e2
          have hix : ((s[k].toNat : Int)).toNat.toUInt8 = s[k] := by simp
          have hqq := HQ.out s[k]
          clear e1 e2
          go_wp2_with fail
          refine (indexOf_any _ _ _).mono ?_
          rintro e w1 ⟨rfl, rfl⟩
          rw [hix]
          by_cases e3 : q s[k] = true
          · rw [e3] at hqq
            have c3 : (0 : Int) ≤ Lib.indexByte some_.data.toList s[k] := of_decide_eq_true hqq
            have HE3 := Lib.hid e3
            generalize Lib.indexByte some_.data.toList s[k] = ix at c3
            clear hqq hix e3
            go_wp2_with fail
            refine (wbyte_any B b L 92 _ HBD.out (by omega) hsz).mono ?_
            rintro e w2 ⟨rfl, hb2, hw2⟩
            have HB2 := Lib.hid hb2
            have HW2 := Lib.hid hw2
            have hsz2 : B ≤ w2.heap.size := by have := hw2.size; omega
            clear hb2 hw2
            go_wp2_with fail
            refine (wbyte_any B b (L ++ [92]) s[k] _ HB2.out (by simp; omega) hsz2).mono ?_
            rintro e w3 ⟨rfl, hb3, hw3⟩
            have HB3 := Lib.hid hb3
            have HW3 := Lib.hid hw3
            clear hb3 hw3
            go_wp2_with fail
            go_roundw
            case rel => exact ⟨k + 1, by omega, by go_num, by rw [HNX.out [92, s[k]] (by rw [Pr.esc, if_neg HE1.out, if_neg HE2.out, if_pos HE3.out]; rfl)]; simpa using HB3.out, (HBE.out.trans HW2.out).trans HW3.out⟩
            case measure => simp [intOf]; omega
          · have e3' : q s[k] = false := by simpa using e3
            rw [e3'] at hqq
            have c3 : Lib.indexByte some_.data.toList s[k] < 0 := by have := of_decide_eq_false hqq; omega
            have HE3 := Lib.hid e3
            generalize Lib.indexByte some_.data.toList s[k] = ix at c3
            clear hqq hix e3 e3'
            go_wp2_with fail
            refine (wbyte_any B b L s[k] _ HBD.out (by omega) hsz).mono ?_
            rintro e w2 ⟨rfl, hb2, hw2⟩
            have HB2 := Lib.hid hb2
            have HW2 := Lib.hid hw2
            clear hb2 hw2
            go_wp2_with fail
            go_roundw
            case rel => exact ⟨k + 1, by omega, by go_num, by rw [HNX.out [s[k]] (by rw [Pr.esc, if_neg HE1.out, if_neg HE2.out, if_neg HE3.out]; rfl)]; exact HB2.out, HBE.out.trans HW2.out⟩
            case measure => simp [intOf]; omega
    · obtain rfl : s.size = k := by omega
      go_wp2_with fail
      go_end0
      have e : (bl s).take s.size = bl s := by rw [← bl_length, List.take_length]
      rw [e] at HBD
      exact ⟨rfl, HBD.out, HBE.out⟩

theorem index_text (c : UInt8) : decide ((0 : Int) ≤ Lib.indexByte [92, 34] c) = Pr.inText c := by
  unfold Pr.inText
  by_cases h1 : c = 92
  · subst h1; rfl
  · by_cases h2 : c = 34
    · subst h2; rfl
    · rw [indexByte_take]
      simp [Ne.symm h1, Ne.symm h2, h1, h2]
theorem index_set (c : UInt8) : decide ((0 : Int) ≤ Lib.indexByte [92, 93, 45] c) = Pr.inSet c := by
  unfold Pr.inSet
  by_cases h1 : c = 92
  · subst h1; rfl
  · by_cases h2 : c = 93
    · subst h2; rfl
    · by_cases h3 : c = 45
      · subst h3; rfl
      · rw [indexByte_take]
        simp [Ne.symm h1, Ne.symm h2, Ne.symm h3, h1, h2, h3]

set_option maxHeartbeats 4000000 in
theorem pattern7_any (p : Rd.Pat) (w : World) (h1 : p.text.length ≤ 100000) (h2 : p.set.length ≤ 100000) :
    Calls Tryz.prog 12 #[patV p] w fun e w' => e = .returned (.string (str (Pr.pattern p))) ∧ Below w.heap.size w w' := by
  obtain ⟨t, st, m⟩ := p
  simp only [] at h1 h2
  unfold patV
  simp only []
  obtain ⟨T, hT⟩ : ∃ T, str t = T := ⟨_, rfl⟩
  obtain ⟨S, hS⟩ : ∃ S, str st = S := ⟨_, rfl⟩
  have hTs : T.size ≤ 100000 := by rw [← bl_length, ← hT, bl_str]; exact h1
  have hSs : S.size ≤ 100000 := by rw [← bl_length, ← hS, bl_str]; exact h2
  have hbT : bl T = t := by rw [← hT, bl_str]
  have hbS : bl S = st := by rw [← hS, bl_str]
  rw [hT, hS]
  have HT := Lib.hid hbT
  have HS := Lib.hid hbS
  have hB0 : Below w.heap.size w ((w.alloc (.cells #[.string T, .string S, .bool m] 39)).alloc (.cells #[.pointer none, .slice none 0 0] 56)) := ((Below.refl _ _).alloc (Nat.le_refl _) _).alloc (by simp) _
  have hat := (At.new w 39 #[.string T, .string S, .bool m]).alloc (.cells #[.pointer none, .slice none 0 0] 56)
  have hbd := Bld.new (w.alloc (.cells #[.string T, .string S, .bool m] 39))
  rw [show (w.alloc (.cells #[.string T, .string S, .bool m] 39)).heap.size = w.heap.size + 1 by simp] at hbd
  obtain ⟨W1, hW1⟩ : ∃ W1, (w.alloc (.cells #[.string T, .string S, .bool m] 39)).alloc (.cells #[.pointer none, .slice none 0 0] 56) = W1 := ⟨_, rfl⟩
  rw [hW1] at hB0 hat hbd
  have HW1 := Lib.hid hW1
  obtain ⟨g, hg⟩ : ∃ g, w.heap.size = g := ⟨_, rfl⟩
  rw [hg] at hB0 hat hbd
  have HG := Lib.hid hg
  have HB0 := Lib.hid hB0
  have HAT := Lib.hid hat
  have HBD := Lib.hid hbd
  have hgl : g + 1 < W1.heap.size := hbd.lt
  clear hT hS hbT hbS hB0 hat hbd hW1 hg
  by_cases ht : t = []
  · have c0 : T.toList.isEmpty = true := by rw [toList_eq, HT.out, ht]; rfl
    have HE := Lib.hid ht
    clear ht h1 h2
    go_enter Tryz.func12, Tryz.ntmps12
    go_wp2_with fail
    rw [HW1.out, HG.out]
    refine (wbyte_any (g + 1) (g + 1) [] 91 W1 HBD.out (by simp) (by omega)).mono ?_
    rintro e w2 ⟨rfl, hb2, hw2⟩
    have hA2 := HAT.out.below hw2 (by omega)
    have c2 := hA2.cell 1
    simp only [List.getElem?_toArray, List.getElem?_cons_zero, List.getElem?_cons_succ] at c2
    have HB2 := Lib.hid hb2
    have HW2 := Lib.hid hw2
    have HA2 := Lib.hid hA2
    have hs2 := hw2.size
    clear hb2 hw2 hA2
    go_wp2_with fail
    refine (pesc_any Pr.inSet _ index_set (g + 1) (g + 1) [91] S w2 HB2.out (by simp) (by omega) (by omega)).mono ?_
    rintro e w3 ⟨rfl, hb3, hw3⟩
    have hL3 : ([91] ++ Pr.esc Pr.inSet (bl S)).length ≤ 1000000 := by
      have := Pr.esc_len Pr.inSet (bl S)
      rw [bl_length] at this
      simp only [List.length_append, List.length_cons, List.length_nil]; omega
    have HA3 := Lib.hid (HA2.out.below hw3 (by omega))
    have HB3 := Lib.hid hb3
    have HW3 := Lib.hid (HW2.out.trans hw3)
    have hs3 := hw3.size
    clear hb3 hw3
    obtain ⟨L3, hL⟩ : ∃ L3, [91] ++ Pr.esc Pr.inSet (bl S) = L3 := ⟨_, rfl⟩
    rw [hL] at HB3 hL3
    have HL := Lib.hid hL
    clear hL
    go_wp2_with fail
    refine (wbyte_any (g + 1) (g + 1) L3 93 w3 HB3.out (by omega) (by omega)).mono ?_
    rintro e w4 ⟨rfl, hb4, hw4⟩
    have hA4 := HA3.out.below hw4 (by omega)
    have c4 := hA4.cell 2
    simp only [List.getElem?_toArray, List.getElem?_cons_zero, List.getElem?_cons_succ] at c4
    have HB4 := Lib.hid hb4
    have HW4 := Lib.hid (HW3.out.trans hw4)
    have hs4 := hw4.size
    clear hb4 hw4 hA4
    cases m with
    | true =>
      go_wp2_with fail
      refine (wbyte_any (g + 1) (g + 1) (L3 ++ [93]) 43 w4 HB4.out (by simp; omega) (by omega)).mono ?_
      rintro e w5 ⟨rfl, hb5, hw5⟩
      have HB5 := Lib.hid hb5
      have HW5 := Lib.hid (HW4.out.trans hw5)
      clear hb5 hw5
      go_wp2_with fail
      refine (string_any (g + 1) (g + 1) _ w5 HB5.out (by simp) (by simp; omega)).mono ?_
      rintro e w6 ⟨rfl, hw6⟩
      have HW6 := Lib.hid (HW5.out.trans hw6)
      clear hw6
      go_wp2_with fail
      go_ret
      refine ⟨?_, HG.out ▸ HB0.out.trans (HW6.out.mono (by omega))⟩
      congr 3
      unfold Pr.pattern
      rw [if_pos HE.out, ← HL.out, HS.out]
      simp
    | false =>
      go_wp2_with fail
      refine (string_any (g + 1) (g + 1) _ w4 HB4.out (by simp) (by simp; omega)).mono ?_
      rintro e w6 ⟨rfl, hw6⟩
      have HW6 := Lib.hid (HW4.out.trans hw6)
      clear hw6
      go_wp2_with fail
      go_ret
      refine ⟨?_, HG.out ▸ HB0.out.trans (HW6.out.mono (by omega))⟩
      congr 3
      unfold Pr.pattern
      rw [if_pos HE.out, ← HL.out, HS.out]
      simp
  · have c0 : T.toList.isEmpty = false := by
      rw [toList_eq, HT.out]
      cases t with
      | nil => exact absurd rfl ht
      | cons a r => rfl
    have HE := Lib.hid ht
    clear ht h1 h2
    go_enter Tryz.func12, Tryz.ntmps12
    go_wp2_with fail
    rw [HW1.out, HG.out]
    refine (wbyte_any (g + 1) (g + 1) [] 34 W1 HBD.out (by simp) (by omega)).mono ?_
    rintro e w2 ⟨rfl, hb2, hw2⟩
    have hA2 := HAT.out.below hw2 (by omega)
    have c2 := hA2.cell 0
    simp only [List.getElem?_toArray, List.getElem?_cons_zero, List.getElem?_cons_succ] at c2
    have HB2 := Lib.hid hb2
    have HW2 := Lib.hid hw2
    have hs2 := hw2.size
    clear hb2 hw2 hA2
    go_wp2_with fail
    refine (pesc_any Pr.inText _ index_text (g + 1) (g + 1) [34] T w2 HB2.out (by simp) (by omega) (by omega)).mono ?_
    rintro e w3 ⟨rfl, hb3, hw3⟩
    have hL3 : ([34] ++ Pr.esc Pr.inText (bl T)).length ≤ 1000000 := by
      have := Pr.esc_len Pr.inText (bl T)
      rw [bl_length] at this
      simp only [List.length_append, List.length_cons, List.length_nil]; omega
    have HB3 := Lib.hid hb3
    have HW3 := Lib.hid (HW2.out.trans hw3)
    have hs3 := hw3.size
    clear hb3 hw3
    obtain ⟨L3, hL⟩ : ∃ L3, [34] ++ Pr.esc Pr.inText (bl T) = L3 := ⟨_, rfl⟩
    rw [hL] at HB3 hL3
    have HL := Lib.hid hL
    clear hL
    go_wp2_with fail
    refine (wbyte_any (g + 1) (g + 1) L3 34 w3 HB3.out (by omega) (by omega)).mono ?_
    rintro e w4 ⟨rfl, hb4, hw4⟩
    have HB4 := Lib.hid hb4
    have HW4 := Lib.hid (HW3.out.trans hw4)
    clear hb4 hw4
    go_wp2_with fail
    refine (string_any (g + 1) (g + 1) _ w4 HB4.out (by simp) (by simp; omega)).mono ?_
    rintro e w6 ⟨rfl, hw6⟩
    have HW6 := Lib.hid (HW4.out.trans hw6)
    clear hw6
    go_wp2_with fail
    go_ret
    refine ⟨?_, HG.out ▸ HB0.out.trans (HW6.out.mono (by omega))⟩
    congr 3
    unfold Pr.pattern
    rw [if_neg HE.out, ← HL.out, HT.out]
    simp

end Go.Proofs.YtpgmapjjjpcmfaaGreatDoor
