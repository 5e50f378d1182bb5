/-
  The walks of lexer's escaped, text, word.
-/
import Derived.Test.YtgmihbfikggkjaaDoorLxB
import Derived.Test.YtgmihbfikggkjaaDoorOwn
import Derived.Deep.MidRow
import Derived.Laws.IdiomStrings
namespace Go.Proofs.YtgmihbfikggkjaaDoor
open Go.RowKit
open Lx
set_option linter.unusedVariables false
set_option linter.unusedSimpArgs false

def eK (k : Nat) : Nat := [3, 3, 3, 3, 4, 4, 4, 4, 4].getD k 0
def eB (k : Nat) : Nat := [92, 34, 110, 116, 92, 93, 45, 110, 116].getD k 0
def eT (k : Nat) : Nat := [92, 34, 10, 9, 92, 93, 45, 10, 9].getD k 0
def escCells : List Value := (List.range 9).flatMap fun k => [.int .i64 (eK k : Int), .int .u8 (eB k : Int), .int .u8 (eT k : Int)]
/-- The table of escapes lies where the program's text lays it. -/
def Tab (w : World) : Prop := w.rangeAt 0 0 escCells
theorem Tab.below {B : Nat} {w w' : World} (h : Tab w) (hb : Below B w w') (h0 : 0 < B) : Tab w' := fun j v hj => (hb.cell (p := ⟨0, _, none⟩) h0).trans (h j v hj)
theorem Tab.drewN {w : World} (h : Tab w) (n : Nat) : Tab (w.drewN n) := h
theorem Tab.alloc {w : World} (h : Tab w) (h0 : 0 < w.heap.size) (o : Obj) : Tab (w.alloc o) := fun j v hj => (World.cell?_alloc_lt w o ⟨0, _, none⟩ h0).trans (h j v hj)

def escV (kind : Nat) : List UInt8 → UInt8 × Bool
  | [] => (0, false)
  | c :: _ => match esc kind c with
    | none => (0, false)
    | some b => (b, true)

theorem escV_none {kind : Nat} {c : UInt8} (r : List UInt8) (h : esc kind c = none) : escV kind (c :: r) = (0, false) := by simp [escV, h]
theorem escV_some {kind : Nat} {c b : UInt8} (r : List UInt8) (h : esc kind c = some b) : escV kind (c :: r) = (b, true) := by simp [escV, h]
theorem eT_small {k : Nat} (hk : k < 9) : eT k < 256 := by
  match k, hk with
  | 0, _ => decide
  | 1, _ => decide
  | 2, _ => decide
  | 3, _ => decide
  | 4, _ => decide
  | 5, _ => decide
  | 6, _ => decide
  | 7, _ => decide
  | 8, _ => decide
theorem esc_hit {kind k : Nat} {c : UInt8} (hk : k < 9) (h1 : eK k = kind) (h2 : eB k = c.toNat) : esc kind c = some (UInt8.ofNat (eT k)) := by
  obtain rfl : c = UInt8.ofNat (eB k) := by rw [h2]; simp
  subst h1
  match k, hk with
  | 0, _ => decide
  | 1, _ => decide
  | 2, _ => decide
  | 3, _ => decide
  | 4, _ => decide
  | 5, _ => decide
  | 6, _ => decide
  | 7, _ => decide
  | 8, _ => decide
theorem esc_miss {kind : Nat} {c : UInt8} (hkind : kind = 3 ∨ kind = 4) (h : ∀ j, j < 9 → ¬ (eK j = kind ∧ eB j = c.toNat)) : esc kind c = none := by
  have h0 := h 0 (by decide)
  have h1 := h 1 (by decide)
  have h2 := h 2 (by decide)
  have h3 := h 3 (by decide)
  have h4 := h 4 (by decide)
  have h5 := h 5 (by decide)
  have h6 := h 6 (by decide)
  have h7 := h 7 (by decide)
  have h8 := h 8 (by decide)
  simp only [eK, eB, List.getD] at h0 h1 h2 h3 h4 h5 h6 h7 h8
  unfold esc
  have e : ∀ n : Nat, n < 256 → (c = UInt8.ofNat n ↔ n = c.toNat) := fun n hn => by
    rw [← UInt8.toNat_inj]; simp; omega
  have e1 := e 110 (by decide)
  have e2 := e 116 (by decide)
  have e3 := e 92 (by decide)
  have e4 := e 34 (by decide)
  have e5 := e 93 (by decide)
  have e6 := e 45 (by decide)
  simp only [UInt8.reduceOfNat] at e1 e2 e3 e4 e5 e6
  rcases hkind with rfl | rfl <;> simp_all

theorem Tryd.sizeTab : (Tryd.prog.info? 141).map (·.size) = some 27 := by kernel_rfl
theorem index_tab (k : Nat) (hk : k < 9) (w : World) : (Instr.index 141 (.agg escCells.toArray) (.int .i64 (k : Int))).run Tryd.prog w = .ok (.agg #[.int .i64 (eK k : Int), .int .u8 (eB k : Int), .int .u8 (eT k : Int)]) w := by
  match k, hk with
  | 0, _ => show (Instr.index _ _ _).run _ w = _; kernel_rfl
  | 1, _ => show (Instr.index _ _ _).run _ w = _; kernel_rfl
  | 2, _ => show (Instr.index _ _ _).run _ w = _; kernel_rfl
  | 3, _ => show (Instr.index _ _ _).run _ w = _; kernel_rfl
  | 4, _ => show (Instr.index _ _ _).run _ w = _; kernel_rfl
  | 5, _ => show (Instr.index _ _ _).run _ w = _; kernel_rfl
  | 6, _ => show (Instr.index _ _ _).run _ w = _; kernel_rfl
  | 7, _ => show (Instr.index _ _ _).run _ w = _; kernel_rfl
  | 8, _ => show (Instr.index _ _ _).run _ w = _; kernel_rfl

theorem escaped_any (kind : Nat) (s : ByteArray) (w : World) (hkind : kind = 3 ∨ kind = 4) (hs : s.size ≤ 9223372036854775807) (hT : Tab w) (h0 : 0 < w.heap.size) :
    Calls Tryd.prog 80 #[.int .i64 (kind : Int), .string s] w fun e w' => e = .returned (.tuple #[.int .u8 ((escV kind (bl s)).1.toNat : Int), .bool (escV kind (bl s)).2]) ∧ Below w.heap.size w w' := by
  have HT := Lib.hid hT
  clear hT
  by_cases hz : s.size = 0
  · have hb : bl s = [] := List.eq_nil_of_length_eq_zero (by rw [bl_length]; exact hz)
    rw [hb]
    have hl : s.toList = [] := by rw [Lib.toList_data]; exact hb
    have hl2 : s.toList.isEmpty = true := by rw [hl]; rfl
    clear hb
    go_enter Tryd.func80, Tryd.ntmps80
    go_wp2_with fail
    go_ret2
    exact ⟨rfl, Below.refl _ _⟩
  · have hl2 : s.toList.isEmpty = false := by
      rw [Lib.toList_data, List.isEmpty_eq_false_iff]
      intro e
      have := bl_length s
      unfold bl at this
      rw [e] at this
      simp at this; omega
    have hsz : 0 < s.size := by omega
    have hbl := bl_drop s 0 hsz
    rw [List.drop_zero] at hbl
    have HB := Lib.hid hbl
    clear hbl hz
    go_enter Tryd.func80, Tryd.ntmps80
    go_wp2_with (refine wpList_load_mid rfl 141 _ rfl 0 0 rfl escCells _ HT.out Tryd.underlying141 rfl Tryd.sizeTab ?_)
    go_loopw [11] (fun i wr => ∃ k : Nat, k ≤ 9 ∧ i = .int .i64 (k : Int) ∧ (∀ j, j < k → ¬ (eK j = kind ∧ eB j = s[0].toNat)) ∧ Below w.heap.size w wr) (fun i _ => 9 - (intOf i).toNat)
    case atStart => exact ⟨0, by omega, rfl, fun j hj => by omega, Below.refl _ _⟩
    case round =>
      obtain ⟨k, hk, rfl, hno, hbel⟩ := hrel
      have HNO := Lib.hid hno
      have HBEL := Lib.hid hbel
      clear hno hbel
      by_cases hlt : k < 9
      · have hidx := index_tab k hlt
        by_cases h1 : eK k = kind
        · have t1 : (eK k == kind) = true := by simpa using h1
          have t2 : ((eK k : Int) == (kind : Int)) = true := by rw [h1]; simp
          have H1 := Lib.hid h1
          clear h1
          by_cases h2 : eB k = s[0].toNat
          · have t3 : (eB k == s[0].toNat) = true := by simpa using h2
            have t4 : ((eB k : Int) == (s[0].toNat : Int)) = true := by rw [h2]; simp
            have H2 := Lib.hid h2
            clear h2
            go_wp2_with fail
            go_quiet (fail)
            go_wp2_with fail
            go_ret2
            have e := esc_hit hlt H1.out H2.out
            refine ⟨?_, below_drewN (HBEL.out.alloc HBEL.out.size _) _⟩
            rw [HB.out, escV_some _ e]
            have e2 : (UInt8.ofNat (eT k)).toNat = eT k := by have := eT_small hlt; simp; omega
            rw [e2]; rfl
          · have t3 : (eB k == s[0].toNat) = false := by simpa using h2
            have t4 : ((eB k : Int) == (s[0].toNat : Int)) = false := by rw [beq_eq_false_iff_ne]; omega
            have H2 := Lib.hid h2
            clear h2
            go_wp2_with fail
            go_quiet (fail)
            go_wp2_with fail
            go_roundw
            case rel => exact ⟨k + 1, by omega, by go_num, fun j hj => by
              by_cases e : j = k
              · subst e; exact fun h => H2.out h.2
              · exact HNO.out j (by omega), below_drewN (HBEL.out.alloc HBEL.out.size _) _⟩
            case measure => simp [intOf]; omega
        · have t1 : (eK k == kind) = false := by simpa using h1
          have t2 : ((eK k : Int) == (kind : Int)) = false := by rw [beq_eq_false_iff_ne]; omega
          have H1 := Lib.hid h1
          clear h1
          go_wp2_with fail
          go_quiet (fail)
          go_wp2_with fail
          go_roundw
          case rel => exact ⟨k + 1, by omega, by go_num, fun j hj => by
            by_cases e : j = k
            · subst e; exact fun h => H1.out h.1
            · exact HNO.out j (by omega), below_drewN (HBEL.out.alloc HBEL.out.size _) _⟩
          case measure => simp [intOf]; omega
      · obtain rfl : k = 9 := by omega
        go_wp2_with fail
        go_ret2
        have e := esc_miss hkind HNO.out
        refine ⟨?_, HBEL.out⟩
        rw [HB.out, escV_none _ e]; rfl

theorem u8info : (Tryd.prog.info? 5).map (fun i => (i.zero, i.size, i.bytes)) = some (some (.int .u8 0), 1, 1) := by kernel_rfl
def bytesV (l : List UInt8) : List Value := l.map fun b => .int .u8 (b.toNat : Int)
theorem bytesV_length (l : List UInt8) : (bytesV l).length = l.length := by simp [bytesV]
theorem bytesV_snoc (l : List UInt8) (b : UInt8) : bytesV (l ++ [b]) = bytesV l ++ [.int .u8 (b.toNat : Int)] := by simp [bytesV]
/-- 'string(b)' of a row of one's own. -/
theorem own_string {w : World} {B g n cap : Nat} {l : List UInt8} (h : w.ownsRow B 5 1 (.slice (some ⟨g, 0, none⟩) n cap) n (bytesV l)) :
    (convert 22 9 (.slice (some ⟨g, 0, none⟩) n cap)).run Tryd.prog w = .ok (.string (str l)) w := by
  have hn : n = l.length := by have := h.1; rw [bytesV_length] at this; omega
  subst hn
  refine run_convert_bytes_back w _ _ 5 _ cap l Tryd.underlying22 Tryd.underlying5 Tryd.underlying9 fun j hj => ?_
  exact h.cells (g := g) rfl j _ (by simp [bytesV, hj])
theorem own_string0 {w : World} {B : Nat} {v : Value} (h : w.ownsRow B 5 1 v 0 []) :
    (convert 22 9 v).run Tryd.prog w = .ok (.string (str [])) w := by
  rcases own_shape h with ⟨rfl, _⟩ | ⟨g, cap, rfl, _⟩
  · exact run_convert_bytes_nil w _ 5 Tryd.underlying22 Tryd.underlying5 0 0 _ Tryd.underlying9
  · exact own_string (l := []) h

set_option maxRecDepth 100000 in
theorem own_str {w : World} {B n cap : Nat} {ao : Option Addr} {l : List UInt8} (h : w.ownsRow B 5 1 (.slice ao n cap) n (bytesV l)) :
    (convert 22 9 (.slice ao n cap)).run Tryd.prog w = .ok (.string (str l)) w := by
  rcases own_shape h with ⟨e, hn, hx⟩ | ⟨g, cap', e, _⟩
  · have hl : l = [] := by
      have := congrArg List.length hx
      rw [bytesV_length] at this
      exact List.eq_nil_of_length_eq_zero this
    subst hn hl
    exact own_string0 h
  · injection e with e1 _ _
    subst e1
    exact own_string h
theorem one_cell (w : World) (x : Value) (t : TypeId) : ∀ j u, [x][j]? = some u → (w.alloc (.cells #[x] t)).cell? ((⟨w.heap.size, 0, none⟩ : Addr).add j) = some u := by
  intro j u hj
  match j, hj with
  | 0, hj => simp at hj; subst hj; simp [Addr.add]
theorem one_one {x : Value} (h : x.oneCell' = true) : ∀ u ∈ [x], u.oneCell' = true := by
  intro u hu; simp at hu; subst hu; exact h
theorem own_form {w : World} {B e size n : Nat} {v : Value} {xs : List Value} (h : w.ownsRow B e size v n xs) : ∃ ao cap, v = .slice ao n cap := by
  rcases own_shape h with ⟨rfl, rfl, _⟩ | ⟨g, cap, e, _⟩
  · exact ⟨_, _, rfl⟩
  · exact ⟨_, _, e⟩
theorem own_lt {w : World} {B e size n : Nat} {v : Value} {xs : List Value} (h : w.ownsRow B e size v n xs) : ∀ k, v.ownBlock = some k → B ≤ k ∧ k < w.heap.size := fun k hk => h.lt k hk

theorem text_quote (r told : List UInt8) (i : Nat) : text (34 :: r) told i = (if told = [] then .bad 10 0 else if 32 < told.length then .bad 12 0 else .mark 3 told (i + 1)) := by
  rw [text.eq_def]; rfl
theorem text_lf (r told : List UInt8) (i : Nat) : text (10 :: r) told i = .bad 11 0 := by rw [text.eq_def]; rfl
theorem text_end (told : List UInt8) (i : Nat) : text [] told i = .bad 11 0 := by rw [text.eq_def]
theorem text_esc (r told : List UInt8) (i : Nat) : text (92 :: r) told i = if (escV 3 r).2 = true then text (r.drop 1) (told ++ [(escV 3 r).1]) (i + 2) else .bad 10 i := by
  rw [text.eq_def]
  cases r with
  | nil => rfl
  | cons d r' =>
    simp only [if_neg (show ¬ (92 : UInt8) = 34 by decide), if_neg (show ¬ (92 : UInt8) = 10 by decide), if_true]
    cases h : esc 3 d with
    | none => simp [escV, h]
    | some b => simp [escV, h]
theorem text_else {c : UInt8} (r told : List UInt8) (i : Nat) (h1 : c ≠ 34) (h2 : c ≠ 10) (h3 : c ≠ 92) : text (c :: r) told i = text r (told ++ [c]) (i + 1) := by
  rw [text.eq_def]; simp only [if_neg h1, if_neg h2, if_neg h3]

set_option maxHeartbeats 1000000 in
theorem text_any (s : ByteArray) (w : World) (hs : s.size ≤ 4000) (hT : Tab w) (h0 : 0 < w.heap.size) :
    Calls Tryd.prog 50 #[.string s] w fun e w' => e = .returned (pieceV (text ((bl s).drop 1) [] 1)) ∧ Below w.heap.size w w' := by
  have HT := Lib.hid hT
  clear hT
  generalize hst : text ((bl s).drop 1) [] 1 = st
  have HST := Lib.hid hst
  clear hst
  obtain ⟨i0, hi, hz0, hz1, hz2⟩ := info_parts u8info
  go_enter Tryd.func50, Tryd.ntmps50
  go_wp2_with fail
  go_loopw [3, 4] (fun v i wr => ∃ (k : Nat) (told : List UInt8) (ao : Option Addr) (cap : Nat), 1 ≤ k ∧ told.length ≤ k ∧ i = .int .i64 (k : Int) ∧ v = .slice ao told.length cap ∧ wr.ownsRow (w.heap.size + 1) 5 1 (.slice ao told.length cap) told.length (bytesV told) ∧ text ((bl s).drop k) told k = st ∧ At wr w.heap.size 77 #[.int .i64 0, .string ⟨#[]⟩, .int .i64 0, .int .i64 0] ∧ Below w.heap.size w wr) (fun _ i _ => s.size - (intOf i).toNat)
  case atStart => exact ⟨1, [], _, _, by omega, by simp, rfl, rfl, World.ownsRow_nil _ _ _ _, HST.out, At.new _ _ _, (Below.refl _ _).alloc (Nat.le_refl _) _⟩
  case round =>
    obtain ⟨k, told, ao, cap, hk1, hl, rfl, rfl, hown, htx, hat, hbel⟩ := hrel
    have HOWN := Lib.hid hown
    have HTX := Lib.hid htx
    have HAT := Lib.hid hat
    have HBEL := Lib.hid hbel
    clear hown htx hat hbel
    by_cases hlt : k < s.size
    · have HD := Lib.hid (bl_drop s k hlt)
      by_cases h34 : s[k] = 34
      · have c1 : ((s[k].toNat : Int) == 34) = true := u8_is h34
        have hm := (HTX.out.symm.trans (by rw [HD.out, h34])).trans (text_quote ((bl s).drop (k + 1)) told k)
        have HM := Lib.hid hm
        clear hm h34
        by_cases hn : told = []
        · subst hn
          go_wp2_with fail
          refine (fault_any 10 0 _).mono ?_
          rintro e w1 ⟨rfl, hb⟩
          first | (rename_i hK; refine hK _ _ ?_) | (rename_i hK _; refine hK _ _ ?_) | (rename_i hK _ _; refine hK _ _ ?_) | (rename_i hK _ _ _; refine hK _ _ ?_)
          have HA := Lib.hid (HAT.out.below hb HAT.out.lt)
          refine wpList_store_at rfl _ _ _ rfl rfl w.heap.size _ _ [_, _, _, _] rfl rfl HA.out 4 Tryd.sizePiece rfl rfl rfl ?_
          intro w2 hat hg
          go_wp2_with fail
          exact bodyPost_ret (results_cell_row rfl _ _ w.heap.size _ _ (0, 0) _ rfl hat Tryd.underlying77 rfl Tryd.sizePiece) rfl ⟨by rw [HM.out]; rfl, below_grown (HBEL.out.trans (hb.mono HBEL.out.size)) hg (by have := hb.size; have := HBEL.out.size; omega) (Nat.le_refl _)⟩
        · have hpos : 0 < told.length := List.length_pos_iff.2 hn
          have hpi : ((told.length : Int) == 0) = false := by rw [beq_eq_false_iff_ne]; omega
          have hpn : (told.length == 0) = false := by rw [beq_eq_false_iff_ne]; omega
          have kc := own_str HOWN.out
          have hq : (if 32 < (str told).size then Step.bad 12 0 else Step.mark 3 (str told).data.toList (k + 1)) = st := by rw [HM.out, if_neg hn]; rfl
          have HQ := Lib.hid hq
          clear hq
          go_wp2_with fail
          rw [show ((k : Int) + 1) = ((k + 1 : Nat) : Int) by omega]
          refine (limited_any 3 (k + 1) 32 (str told) _ (by show told.length ≤ _; omega)).mono ?_
          rw [HQ.out]
          rintro e w1 ⟨rfl, hb⟩
          unfold pieceV
          first | (rename_i hK; refine hK _ _ ?_) | (rename_i hK _; refine hK _ _ ?_) | (rename_i hK _ _; refine hK _ _ ?_) | (rename_i hK _ _ _; refine hK _ _ ?_)
          have HA := Lib.hid (HAT.out.below hb HAT.out.lt)
          refine wpList_store_at rfl _ _ _ rfl rfl w.heap.size _ _ [_, _, _, _] rfl rfl HA.out 4 Tryd.sizePiece rfl rfl rfl ?_
          intro w2 hat hg
          go_wp2_with fail
          exact bodyPost_ret (results_cell_row rfl _ _ w.heap.size _ _ (0, 0) _ rfl hat Tryd.underlying77 rfl Tryd.sizePiece) rfl ⟨rfl, below_grown (HBEL.out.trans (hb.mono HBEL.out.size)) hg (by have := hb.size; have := HBEL.out.size; omega) (Nat.le_refl _)⟩
      · have c1 : ((s[k].toNat : Int) == 34) = false := u8_ne h34
        by_cases h10 : s[k] = 10
        · have c2 : ((s[k].toNat : Int) == 10) = true := u8_is h10
          have hm := (HTX.out.symm.trans (by rw [HD.out, h10])).trans (text_lf ((bl s).drop (k + 1)) told k)
          have HM := Lib.hid hm
          clear hm h10 h34
          go_wp2_with fail
          refine (fault_any 11 0 _).mono ?_
          rintro e w1 ⟨rfl, hb⟩
          first | (rename_i hK; refine hK _ _ ?_) | (rename_i hK _; refine hK _ _ ?_) | (rename_i hK _ _; refine hK _ _ ?_) | (rename_i hK _ _ _; refine hK _ _ ?_)
          have HA := Lib.hid (HAT.out.below hb HAT.out.lt)
          refine wpList_store_at rfl _ _ _ rfl rfl w.heap.size _ _ [_, _, _, _] rfl rfl HA.out 4 Tryd.sizePiece rfl rfl rfl ?_
          intro w2 hat hg
          go_wp2_with fail
          exact bodyPost_ret (results_cell_row rfl _ _ w.heap.size _ _ (0, 0) _ rfl hat Tryd.underlying77 rfl Tryd.sizePiece) rfl ⟨by rw [HM.out]; rfl, below_grown (HBEL.out.trans (hb.mono HBEL.out.size)) hg (by have := hb.size; have := HBEL.out.size; omega) (Nat.le_refl _)⟩
        · have c2 : ((s[k].toNat : Int) == 10) = false := u8_ne h10
          by_cases h92 : s[k] = 92
          · have c3 : ((s[k].toNat : Int) == 92) = true := u8_is h92
            have hm := (HTX.out.symm.trans (by rw [HD.out, h92])).trans (text_esc ((bl s).drop (k + 1)) told k)
            have HM := Lib.hid hm
            clear hm h10 h34 h92
            have hz : (s.extract (k + 1) s.size).size ≤ 9223372036854775807 := by rw [size_ext s _ _ (by omega) (by omega)]; omega
            have hkk : ((k : Int) + 1).toNat = k + 1 := by omega
            have hsz := HBEL.out.size
            rcases hev : escV 3 ((bl s).drop (k + 1)) with ⟨b, ok⟩
            have HEV := Lib.hid hev
            have HM2 : Hid (st = if ok = true then text (((bl s).drop (k + 1)).drop 1) (told ++ [b]) (k + 2) else .bad 10 k) := Lib.hid (by rw [HM.out, hev])
            clear hev
            cases ok with
            | false =>
              go_wp2_with fail
              refine (escaped_any 3 _ _ (.inl rfl) hz (HT.out.below HBEL.out h0) (by omega)).mono ?_
              rw [bl_end, HEV.out]
              rintro e w1 ⟨rfl, hb0⟩
              have HAT1 := Lib.hid (HAT.out.below hb0 HAT.out.lt)
              have HBEL1 := Lib.hid (HBEL.out.trans (hb0.mono HBEL.out.size))
              clear hb0
              go_wp2_with fail
              refine (fault_any 10 k _).mono ?_
              rintro e w1 ⟨rfl, hb⟩
              first | (rename_i hK; refine hK _ _ ?_) | (rename_i hK _; refine hK _ _ ?_) | (rename_i hK _ _; refine hK _ _ ?_) | (rename_i hK _ _ _; refine hK _ _ ?_)
              have HA := Lib.hid (HAT1.out.below hb HAT1.out.lt)
              refine wpList_store_at rfl _ _ _ rfl rfl w.heap.size _ _ [_, _, _, _] rfl rfl HA.out 4 Tryd.sizePiece rfl rfl rfl ?_
              intro w2 hat hg
              go_wp2_with fail
              exact bodyPost_ret (results_cell_row rfl _ _ w.heap.size _ _ (0, 0) _ rfl hat Tryd.underlying77 rfl Tryd.sizePiece) rfl ⟨by rw [HM2.out]; rfl, below_grown (HBEL1.out.trans (hb.mono HBEL1.out.size)) hg (by have := hb.size; have := HBEL1.out.size; omega) (Nat.le_refl _)⟩
            | true =>
              have hc3 : told.length + 1 ≤ maxLen := by unfold maxLen; omega
              have hc4 : (told.length + 1) * 1 ≤ 140737488355328 := by omega
              go_wp2_with fail
              refine (escaped_any 3 _ _ (.inl rfl) hz (HT.out.below HBEL.out h0) (by omega)).mono ?_
              rw [bl_end, HEV.out]
              rintro e w1 ⟨rfl, hb0⟩
              have HAT1 := Lib.hid (HAT.out.below hb0 HAT.out.lt)
              have HBEL1 := Lib.hid (HBEL.out.trans (hb0.mono HBEL.out.size))
              have HOWN1 := Lib.hid (own_below HOWN.out hb0 (fun j hj => (own_lt HOWN.out j hj).2))
              have hc5 : ∀ o, w.heap.size + 1 ≤ (w1.alloc o).heap.size := fun o => by have := HAT1.out.lt; simp; omega
              clear hb0
              go_wp2_with (at_builtin; refine wpList_append_own2 _ rfl (.tmp 49) (.tmp 51) 22 rfl (w.heap.size + 1) 5 i0 _ 1 1 Tryd.underlying22 hi hz0 hz1 hz2 rfl (by decide) _ told.length (bytesV told) rfl (HOWN1.out.alloc _) ⟨w1.heap.size, 0, none⟩ 1 1 [.int .u8 (b.toNat : Int)] rfl rfl (one_cell _ _ _) (one_one rfl) hc3 hc4 (hc5 _) ?_)
              intro v' w5 hown' hgrow hsn
              obtain ⟨ao', cap', rfl⟩ := own_form hown'
              have R5 : w5.ownsRow (w.heap.size + 1) 5 1 (.slice ao' (told.length + 1) cap') (told.length + 1) (bytesV (told ++ [b])) ∧ At w5 w.heap.size 77 #[.int .i64 0, .string ⟨#[]⟩, .int .i64 0, .int .i64 0] ∧ Below w.heap.size w w5 :=
                ⟨by rw [bytesV_snoc]; exact hown', (HAT1.out.alloc _).grown hgrow (fun e => by have := (own_lt HOWN1.out _ e.symm).1; omega), (HBEL1.out.alloc HBEL1.out.size _).grown hgrow (by simp; exact Nat.le_trans HBEL1.out.size (Nat.le_succ _)) (fun j hj => by have := (own_lt HOWN1.out _ hj).1; omega)⟩
              have HR := Lib.hid R5
              clear hown' hgrow hsn R5
              go_wp2_with fail
              go_roundw
              case rel => exact ⟨k + 2, told ++ [b], ao', cap', by omega, by simp; omega, by first | go_num | (congr 1; omega), by simp, by simpa using HR.out.1, by rw [HM2.out, if_pos trivial, List.drop_drop], HR.out.2⟩
              case measure => simp [intOf]; omega
          · have c3 : ((s[k].toNat : Int) == 92) = false := u8_ne h92
            have hm := (HTX.out.symm.trans (by rw [HD.out])).trans (text_else ((bl s).drop (k + 1)) told k h34 h10 h92)
            have HM := Lib.hid hm
            clear hm h10 h34 h92
            have hc3 : told.length + 1 ≤ maxLen := by unfold maxLen; omega
            have hc4 : (told.length + 1) * 1 ≤ 140737488355328 := by omega
            have hc5 : ∀ o, w.heap.size + 1 ≤ (wr.alloc o).heap.size := fun o => by have := HAT.out.lt; simp; omega
            go_wp2_with (at_builtin; refine wpList_append_own2 _ rfl (.tmp 49) (.tmp 51) 22 rfl (w.heap.size + 1) 5 i0 _ 1 1 Tryd.underlying22 hi hz0 hz1 hz2 rfl (by decide) _ told.length (bytesV told) rfl (HOWN.out.alloc _) ⟨wr.heap.size, 0, none⟩ 1 1 [.int .u8 (s[k].toNat : Int)] rfl rfl (one_cell _ _ _) (one_one rfl) hc3 hc4 (hc5 _) ?_)
            intro v' w5 hown' hgrow hsn
            obtain ⟨ao', cap', rfl⟩ := own_form hown'
            have R5 : w5.ownsRow (w.heap.size + 1) 5 1 (.slice ao' (told.length + 1) cap') (told.length + 1) (bytesV (told ++ [s[k]])) ∧ At w5 w.heap.size 77 #[.int .i64 0, .string ⟨#[]⟩, .int .i64 0, .int .i64 0] ∧ Below w.heap.size w w5 :=
              ⟨by rw [bytesV_snoc]; exact hown', (HAT.out.alloc _).grown hgrow (fun e => by have := (own_lt HOWN.out _ e.symm).1; omega), (HBEL.out.alloc HBEL.out.size _).grown hgrow (by simp; exact Nat.le_trans HBEL.out.size (Nat.le_succ _)) (fun j hj => by have := (own_lt HOWN.out _ hj).1; omega)⟩
            have HR := Lib.hid R5
            clear hown' hgrow hsn R5
            go_wp2_with fail
            go_roundw
            case rel => exact ⟨k + 1, told ++ [s[k]], ao', cap', by omega, by simp; omega, by first | go_num | (congr 1; omega), by simp, by simpa using HR.out.1, HM.out.symm, HR.out.2⟩
            case measure => simp [intOf]; omega
    · have hm := (HTX.out.symm.trans (by rw [List.drop_of_length_le (by rw [bl_length]; omega)])).trans (text_end told k)
      have HM := Lib.hid hm
      clear hm
      go_wp2_with fail
      refine (fault_any 11 0 _).mono ?_
      rintro e w1 ⟨rfl, hb⟩
      first | (rename_i hK; refine hK _ _ ?_) | (rename_i hK _; refine hK _ _ ?_) | (rename_i hK _ _; refine hK _ _ ?_) | (rename_i hK _ _ _; refine hK _ _ ?_)
      have HA := Lib.hid (HAT.out.below hb HAT.out.lt)
      refine wpList_store_at rfl _ _ _ rfl rfl w.heap.size _ _ [_, _, _, _] rfl rfl HA.out 4 Tryd.sizePiece rfl rfl rfl ?_
      intro w2 hat hg
      go_wp2_with fail
      exact bodyPost_ret (results_cell_row rfl _ _ w.heap.size _ _ (0, 0) _ rfl hat Tryd.underlying77 rfl Tryd.sizePiece) rfl ⟨by rw [HM.out]; rfl, below_grown (HBEL.out.trans (hb.mono HBEL.out.size)) hg (by have := hb.size; have := HBEL.out.size; omega) (Nat.le_refl _)⟩

end Go.Proofs.YtgmihbfikggkjaaDoor
