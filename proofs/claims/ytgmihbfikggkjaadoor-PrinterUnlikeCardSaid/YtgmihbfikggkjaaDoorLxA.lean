/-
  The walks of lexer's small functions, and of tronageref05's.
-/
import Derived.Test.YtgmihbfikggkjaaDoorMem
import Derived.Test.YtgmihbfikggkjaaDoorLxP
import Derived.BigQuiet
import Derived.Deep.QuietTactic
import Derived.Lib.Hide
import Derived.Great.BuildSlice
import Derived.Laws.Rows
import Derived.OwnWalk
namespace Go.Proofs.YtgmihbfikggkjaaDoor
open Go.RowKit
open Lx
set_option linter.unusedVariables false
set_option linter.unusedSimpArgs false

/-- A string of these bytes. -/
def str (l : List UInt8) : ByteArray := ⟨l.toArray⟩
namespace Lx
def Step.kindV : Step → Int
  | .skip _ => -1
  | .mark k _ _ => k
  | .bad _ _ => 0
def Step.textV : Step → List UInt8
  | .mark _ t _ => t
  | _ => []
def Step.size : Step → Nat
  | .skip n => n
  | .mark _ _ n => n
  | .bad _ n => n
def Step.code : Step → Nat
  | .bad c _ => c
  | _ => 0
end Lx
def pieceV (s : Step) : Value := .agg #[.int .i64 s.kindV, .string (str s.textV), .int .i64 s.size, .int .i64 s.code]
/-- A Found, of a step at a byte. -/
def foundV (i : Nat) : Step → Value
  | .skip n => .agg #[.int .i64 (-1), .string (str []), .int .i64 ((i + n : Nat) : Int), .int .i64 0, .int .i64 0]
  | .mark k t n => .agg #[.int .i64 k, .string (str t), .int .i64 ((i + n : Nat) : Int), .int .i64 0, .int .i64 0]
  | .bad c n => .agg #[.int .i64 0, .string (str []), .int .i64 0, .int .i64 c, .int .i64 ((i + n : Nat) : Int)]

/-- A store over a whole block. -/
theorem wpList_store_at {P : Program} {ops : Array Oper} {rest : List Oper} {o : Oper} {a : Act} {w : World} {Q : Exit → Act → World → Prop} (hgd : o.guard = none) (ty : TypeId) (x y : Operand) (ho : o.op = .store ty x y)
    (hd : o.dst = none) (g : Nat) (t : TypeId) (old : Array Value) (new : List Value) (hx : a.eval x = .pointer (some ⟨g, 0, none⟩)) (hy : a.eval y = .agg new.toArray) (hg : At w g t old) (n : Nat) (hi : (P.info? ty).map (·.size) = some n)
    (hn : new.length = n) (hold : old.size = n) (h1 : new.all (·.oneCell') = true)
    (h : ∀ w', At w' g t new.toArray → w.grownBy w' (some g) → wpList P ops Q rest a w') : wpList P ops Q (o :: rest) a w :=
  wpList_store_rowTo hgd ty x y ho hd g new.toArray hx hy t old hg (by simpa [hn] using hi) (by simpa [hn] using hold) (by simpa using h1)
    (h _ (setRow_heap w g old new.toArray t (0, 0) hg) ⟨rfl, rfl, rfl, by simp, fun j _ hj => setRow_other w g j _ (fun e => hj (by simp [e]))⟩)
theorem below_grown {w w1 w2 : World} {g : Nat} {B : Nat} (h : Below B w w1) (k : w1.grownBy w2 (some g)) (hB : B ≤ w1.heap.size) (hg : B ≤ g) : Below B w w2 :=
  h.grown k hB (fun x hx => by injection hx with hx; omega)

theorem Tryd.sizePiece : (Tryd.prog.info? 77).map (·.size) = some 4 := by kernel_rfl
theorem Tryd.sizePos : (Tryd.prog.info? 38).map (·.size) = some 2 := by kernel_rfl
theorem Tryd.sizeDiag : (Tryd.prog.info? 40).map (·.size) = some 3 := by kernel_rfl

theorem fault_any (c n : Nat) (w : World) :
    Calls Tryd.prog 55 #[.int .i64 (c : Int), .int .i64 (n : Int)] w fun e w' => e = .returned (pieceV (.bad c n)) ∧ Below w.heap.size w w' := by
  go_enter Tryd.func55, Tryd.ntmps55
  go_wp2_with fail
  exact bodyPost_ret (v := pieceV (.bad c n)) (by simp [results, Tryd.results55, go_sem]; rfl) rfl ⟨rfl, (Below.refl _ _).alloc (Nat.le_refl _) _⟩


theorem ret_bool {a b : Bool} (h : a = b) : Ending.returned (.bool a) = .returned (.bool b) := by rw [h]

theorem small_any (c : UInt8) (w : World) :
    Calls Tryd.prog 77 #[.int .u8 (c.toNat : Int)] w fun e w' => e = .returned (.bool (isSmall c)) ∧ w = w' := by
  have e : isSmall c = (decide (97 ≤ (c.toNat : Int)) && decide ((c.toNat : Int) ≤ 122)) := by
    unfold isSmall; rw [Bool.eq_iff_iff]; simp [UInt8.le_iff_toNat_le]; omega
  have E := Lib.hid e
  clear e
  go_enter Tryd.func77, Tryd.ntmps77
  go_wp2_with fail
  all_goals
    go_ret
    refine ⟨?_, rfl⟩
    rw [E.out]
    exact ret_bool (by rw [Bool.eq_iff_iff]; simp_all <;> omega)

theorem digit_any (c : UInt8) (w : World) :
    Calls Tryd.prog 84 #[.int .u8 (c.toNat : Int)] w fun e w' => e = .returned (.bool (isDigit c)) ∧ w = w' := by
  have e : isDigit c = (decide (48 ≤ (c.toNat : Int)) && decide ((c.toNat : Int) ≤ 57)) := by
    unfold isDigit; rw [Bool.eq_iff_iff]; simp [UInt8.le_iff_toNat_le]; omega
  have E := Lib.hid e
  clear e
  go_enter Tryd.func84, Tryd.ntmps84
  go_wp2_with fail
  all_goals
    go_ret
    refine ⟨?_, rfl⟩
    rw [E.out]
    exact ret_bool (by rw [Bool.eq_iff_iff]; simp_all <;> omega)


theorem u8_eq (c : UInt8) (n : Nat) (hn : n < 256) : (c == UInt8.ofNat n) = decide ((c.toNat : Int) = n) := by
  rw [Bool.eq_iff_iff]; simp [← UInt8.toNat_inj]; omega
theorem letter_eq (c : UInt8) : isLetter c = (isSmall c || (decide (65 ≤ (c.toNat : Int)) && decide ((c.toNat : Int) ≤ 90)) || decide ((c.toNat : Int) = 95)) := by
  have e : (c == 95) = decide ((c.toNat : Int) = 95) := u8_eq c 95 (by decide)
  unfold isLetter
  rw [e]
  cases isSmall c <;> rw [Bool.eq_iff_iff] <;> simp [UInt8.le_iff_toNat_le] <;> omega

theorem letter_any (c : UInt8) (w : World) :
    Calls Tryd.prog 83 #[.int .u8 (c.toNat : Int)] w fun e w' => e = .returned (.bool (isLetter c)) ∧ w = w' := by
  have E := Lib.hid (letter_eq c)
  go_enter Tryd.func83, Tryd.ntmps83
  go_wp2_with fail
  refine (small_any c _).mono ?_
  rintro e w' ⟨rfl, rfl⟩
  go_wp2_with fail
  all_goals
    go_ret
    refine ⟨?_, rfl⟩
    rw [E.out]
    exact ret_bool (by rw [Bool.eq_iff_iff]; simp_all <;> omega)


theorem limited_any (k n m : Nat) (s : ByteArray) (w : World) (hs : s.size ≤ 9223372036854775807) :
    Calls Tryd.prog 54 #[.int .i64 (k : Int), .string s, .int .i64 (n : Int), .int .i64 (m : Int)] w fun e w' => e = .returned (pieceV (if m < s.size then .bad 12 0 else .mark k s.data.toList n)) ∧ Below w.heap.size w w' := by
  by_cases hm : m < s.size
  · rw [if_pos hm]
    go_enter Tryd.func54, Tryd.ntmps54
    go_wp2_with fail
    refine (fault_any 12 0 _).mono ?_
    rintro e w1 ⟨rfl, hb⟩
    rename_i hK
    refine hK _ _ ?_
    have HA := Lib.hid ((At.new w 77 _).below hb (by simp))
    refine wpList_store_at rfl _ _ _ rfl rfl w.heap.size _ _ [_, _, _, _] rfl rfl HA.out 4 Tryd.sizePiece rfl rfl rfl ?_
    intro w2 hat hg
    go_wp2_with fail
    exact bodyPost_ret (results_cell_row rfl _ _ w.heap.size _ _ (0, 0) _ rfl hat Tryd.underlying77 rfl Tryd.sizePiece) rfl ⟨rfl, below_grown (((Below.refl _ _).alloc (Nat.le_refl _) _).trans (hb.mono (by simp))) hg (by have := hb.size; simp at this; omega) (by omega)⟩
  · rw [if_neg hm]
    go_enter Tryd.func54, Tryd.ntmps54
    go_wp2_with fail
    exact bodyPost_ret (v := pieceV (.mark k s.data.toList n)) (by simp [results, Tryd.results54, go_sem]; rfl) rfl ⟨rfl, (Below.refl _ _).alloc (Nat.le_refl _) _⟩

end Go.Proofs.YtgmihbfikggkjaaDoor
