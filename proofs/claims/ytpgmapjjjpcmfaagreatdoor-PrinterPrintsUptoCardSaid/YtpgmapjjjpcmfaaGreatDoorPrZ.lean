/-
  strings.Join, out of the library's shelf; the walks of printer's line, Rule.
  The walk of printer.Rule.
-/
import Derived.Test.YtpgmapjjjpcmfaaGreatDoorPrY
import Derived.Shelf.Strings.OnBuilder
namespace Go.Proofs.YtpgmapjjjpcmfaaGreatDoor
open Go.RowKit
open Lx
set_option linter.unusedVariables false
set_option linter.unusedSimpArgs false
set_option maxRecDepth 100000

def laysJ_ren : Go.Shelf.Ren := ⟨fun | 156 => 37 | 165 => 71 | 166 => 58 | 169 => 22 | 240 => 72 | 241 => 90 | 276 => 91 | 277 => 109 | n => n, fun | 0 => 0 | 3 => 3 | 4 => 4 | 9 => 9 | 20 => 20 | 31 => 34 | 37 => 52 | 70 => 51 | 72 => 54 | 75 => 75 | 76 => 102 | 127 => 104 | 164 => 125 | 5 => 5 | 80 => 60 | n => n, fun | n => n⟩
theorem laysJ : Go.Proofs.Lays.n156 Tryz.prog laysJ_ren := {
  mixed := by kernel_rfl
  f156 := Tryz.func37.trans (congrArg some (by kernel_rfl))
  f165 := Tryz.func71.trans (congrArg some (by kernel_rfl))
  f166 := Tryz.func58.trans (congrArg some (by kernel_rfl))
  f169 := Tryz.func22.trans (congrArg some (by kernel_rfl))
  f240 := Tryz.func72.trans (congrArg some (by kernel_rfl))
  f241 := Tryz.func90.trans (congrArg some (by kernel_rfl))
  f276 := Tryz.func91.trans (congrArg some (by kernel_rfl))
  f277 := Tryz.func109.trans (congrArg some (by kernel_rfl))
  t0 := Tryz.underlying0
  a0 := Tryz.isAgg0
  z0 := Tryz.sizeOf0
  v0 := Tryz.zeroValue0
  t3 := Tryz.underlying3
  a3 := Tryz.isAgg3
  z3 := Tryz.sizeOf3
  v3 := Tryz.zeroValue3
  t4 := Tryz.underlying4
  a4 := Tryz.isAgg4
  z4 := Tryz.sizeOf4
  v4 := Tryz.zeroValue4
  t9 := Tryz.underlying9
  a9 := Tryz.isAgg9
  z9 := Tryz.sizeOf9
  v9 := Tryz.zeroValue9
  t20 := Tryz.underlying20
  a20 := Tryz.isAgg20
  z20 := Tryz.sizeOf20
  v20 := Tryz.zeroValue20
  t31 := Tryz.underlying34
  a31 := Tryz.isAgg34
  z31 := Tryz.sizeOf34
  v31 := Tryz.zeroValue34
  t37 := Tryz.underlying52
  a37 := Tryz.isAgg52
  z37 := Tryz.sizeOf52
  v37 := Tryz.zeroValue52
  t70 := Tryz.underlying51
  a70 := Tryz.isAgg51
  z70 := Tryz.sizeOf51
  v70 := Tryz.zeroValue51
  t72 := Tryz.underlying54
  a72 := Tryz.isAgg54
  z72 := Tryz.sizeOf54
  v72 := Tryz.zeroValue54
  t75 := Tryz.underlying75
  a75 := Tryz.isAgg75
  z75 := Tryz.sizeOf75
  v75 := Tryz.zeroValue75
  t76 := Tryz.underlying102
  a76 := Tryz.isAgg102
  z76 := Tryz.sizeOf102
  v76 := Tryz.zeroValue102
  t127 := Tryz.underlying104
  a127 := Tryz.isAgg104
  z127 := Tryz.sizeOf104
  v127 := Tryz.zeroValue104
  t164 := Tryz.underlying125
  a164 := Tryz.isAgg125
  z164 := Tryz.sizeOf125
  v164 := Tryz.zeroValue125 }
theorem extraJ : Go.Proofs.Builder.Extra Tryz.prog laysJ_ren := {
  sizeBuilder := by kernel_rfl
  liesBuilder := by kernel_rfl
  t5 := Tryz.underlying5
  a5 := Tryz.isAgg5
  z5 := Tryz.sizeOf5
  v5 := Tryz.zeroValue5
  infoByte := by kernel_rfl
  cellsByte := by kernel_rfl
  sizeByte := by kernel_rfl
  neB5 := by decide }

/-- Words with one space between. -/
def jn : List Rd.Name → List UInt8
  | [] => []
  | x :: r => x ++ Pr.rowT r
theorem join_jn (l : List Rd.Name) : Lib.join l [32] = jn l := by
  cases l with
  | nil => rfl
  | cons x r =>
    rw [Lib.join_cons]
    show x ++ Lib.joinTail [32] r = x ++ Pr.rowT r
    congr 1

theorem join_any (l : List Rd.Name) (A : Option Addr) (cap : Nat) (w : World) (hl : Cl w w.heap.size A (namesV l)) (h0 : l ≠ []) (hc : l.length ≤ cap) (hn : (jn l).length ≤ 140737488355328) (hk : l.length ≤ 140737488355328) :
    Calls Tryz.prog 37 #[.slice A l.length cap, .string ⟨#[32]⟩] w fun e w' => e = .returned (.string (str (jn l))) ∧ Below w.heap.size w w' := by
  obtain ⟨b, o, rfl, hb, hcell⟩ := hl.ex (by cases l with | nil => exact absurd rfl h0 | cons a r => simp [namesV])
  have he : (l.map str).map (·.data.toList) = l := by
    rw [List.map_map]
    have : ((fun x : ByteArray => x.data.toList) ∘ str) = id := by funext x; rfl
    rw [this, List.map_id]
  have h := Any.strings_Join (P := Tryz.prog) laysJ extraJ b o cap (l.map str) ⟨#[32]⟩ w (fun j x hx => by
    rw [List.getElem?_map] at hx
    cases hj : l[j]? with
    | none => rw [hj] at hx; cases hx
    | some y =>
      rw [hj] at hx
      injection hx with hx
      subst hx
      exact hcell j _ (namesV_get hj)) hb (by simpa using hk) (by simpa using hc) (by rw [he]; exact (join_jn l).symm ▸ hn)
  rw [he, List.length_map] at h
  refine Calls.mono h fun e w' hh => ⟨?_, hh.2⟩
  rw [hh.1]
  show _ = Ending.returned (.string (⟨(jn l).toArray⟩))
  rw [← join_jn]

end Go.Proofs.YtpgmapjjjpcmfaaGreatDoor

namespace Go.Proofs.YtpgmapjjjpcmfaaGreatDoor
open Go.RowKit
open Lx
set_option linter.unusedVariables false
set_option linter.unusedSimpArgs false
set_option maxRecDepth 100000

theorem own_built (w : World) (cs : List Value) (e : TypeId) (h : cs.length ≤ maxLen) : (w.alloc (.cells cs.toArray e)).ownsRow w.heap.size e 1 (.slice (some ⟨w.heap.size, 0, none⟩) cs.length cs.length) cs.length cs :=
  ⟨(Nat.mul_one _).symm, .inr ⟨w.heap.size, cs.length, cs.toArray, rfl, Nat.le_refl _, At.new w e cs.toArray, Nat.le_refl _, h, by simp, by simp⟩⟩
theorem own_cap {w : World} {B e size n : Nat} {A : Option Addr} {cap : Nat} {xs : List Value} (h : w.ownsRow B e size (.slice A n cap) n xs) : n ≤ cap := by
  rcases own_shape h with ⟨h1, h2, _⟩ | ⟨g, c, h1, h2, _⟩
  · injection h1 with _ _ h3; omega
  · injection h1 with _ _ h3; omega
def precP (p : Rd.Name) : List Rd.Name := if p = [] then [] else [[37, 112, 114, 101, 99], p]
def actP (a : Rd.Name) : List Rd.Name := if a = [] then [] else [123 :: (a ++ [125])]
theorem namesV_append (a b : List Rd.Name) : namesV (a ++ b) = namesV a ++ namesV b := by simp [namesV]
theorem jn_len (l : List Rd.Name) (m : Nat) (h : ∀ x ∈ l, x.length ≤ m) : (jn l).length ≤ l.length * (m + 1) := by
  have hr : ∀ r : List Rd.Name, (∀ x ∈ r, x.length ≤ m) → (Pr.rowT r).length ≤ r.length * (m + 1) := by
    intro r
    induction r with
    | nil => intro _; simp [Pr.rowT]
    | cons x r ih =>
      intro h
      have h1 := h x (by simp)
      have h2 := ih (fun y hy => h y (by simp [hy]))
      unfold Pr.rowT at h2 ⊢
      rw [List.flatMap_cons, List.length_append, List.length_cons, List.length_cons, Nat.add_mul]
      omega
  cases l with
  | nil => simp [jn]
  | cons x r =>
    have h1 := h x (by simp)
    have h2 := hr r (fun y hy => h y (by simp [hy]))
    rw [jn, List.length_append, List.length_cons, Nat.add_mul]
    omega

end Go.Proofs.YtpgmapjjjpcmfaaGreatDoor

