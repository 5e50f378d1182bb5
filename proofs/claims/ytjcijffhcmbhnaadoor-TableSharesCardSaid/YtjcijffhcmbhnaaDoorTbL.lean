import Derived.Test.YtjcijffhcmbhnaaDoorTbJ
namespace Go.Proofs.YtjcijffhcmbhnaaDoor
set_option maxRecDepth 100000
open Go.RowKit
open BitKit
set_option linter.unusedVariables false
set_option linter.unusedSimpArgs false
namespace Tb
def FreeTo (ow r : List Int) (p k : Nat) : Prop := ∀ c, c < k → r.getD c 0 ≠ 0 → ow.getD (p + c) 0 = 0
theorem FreeTo.all {ow r : List Int} {p : Nat} (h : FreeTo ow r p r.length) : Free ow r p := fun c hc => h c (getD_in hc) hc
def part (l r : List Int) (p : Nat) (f : Int → Int) (c : Nat) : List Int := lay l (trim (r.take c)) p f
theorem part_zero (l r : List Int) (p : Nat) (f : Int → Int) (hp : p ≤ l.length) : part l r p f 0 = l := by
 apply ext_getD
 ·unfold part; rw [lay_length, List.take_zero, trim_nil]; simp; omega
 ·intro i; unfold part; rw [List.take_zero, trim_nil, lay_getD, if_neg]; simp
theorem part_all {l r : List Int} (p : Nat) (f : Int → Int) (h : trim r = r) : part l r p f r.length = lay l r p f := by
 unfold part; rw [List.take_length, h]
theorem part_none {l r : List Int} {p c : Nat} {f : Int → Int} (h : r[c]? = some 0) : part l r p f (c + 1) = part l r p f c := by
 unfold part
 rw [take_snoc h]
 have := trim_noughts (r.take c) 1
 rw [show List.replicate 1 (0 : Int) = [0] from rfl] at this
 rw [this]
theorem trim_last {l : List Int} {x : Int} (h : x ≠ 0) : trim (l ++ [x]) = l ++ [x] := by
 have he : Ends (l ++ [x]) (l ++ [x]).length := ⟨Nat.le_refl _, fun i hi => getD_out hi, fun _ => by simp [List.getD, h]⟩
 rw [he.trim, List.take_length]
theorem part_length (l r : List Int) (p : Nat) (f : Int → Int) (c : Nat) : (part l r p f c).length ≤ max l.length (p + c) := by
 unfold part
 rw [lay_length]
 have h1 := trim_le (r.take c)
 have h2 : (r.take c).length ≤ c := List.length_take_le _ _
 omega
theorem part_next {l r : List Int} {p c : Nat} {x : Int} {f : Int → Int} (h : r[c]? = some x) (hx : x ≠ 0) (hp : p ≤ l.length) : part l r p f (c + 1) = (longer 0 (part l r p f c) (p + c + 1)).set (p + c) (f x) := by
 have hcl := (List.getElem?_eq_some_iff.1 h).1
 have htl : (r.take c).length = c := by rw [List.length_take]; omega
 have ht : trim (r.take (c + 1)) = r.take c ++ [x] := by rw [take_snoc h, trim_last hx]
 have hgd : ∀ i, (r.take c ++ [x]).getD i 0 = if i = c then x else (trim (r.take c)).getD i 0 := by
  intro i
  rw [trim_getD]
  by_cases h1 : i = c
  ·subst h1
   rw [if_pos rfl, List.getD, List.getElem?_append_right (by omega), htl]
   simp
  ·rw [if_neg h1]
   by_cases h2 : i < c
   ·rw [List.getD, List.getElem?_append_left (by omega)]; rfl
   ·rw [getD_out (by simp [htl]; omega), getD_out (by omega)]
 have hlen : (lay l (r.take c ++ [x]) p f).length = max l.length (p + (c + 1)) := by rw [lay_length, List.length_append, htl]; rfl
 unfold part
 rw [ht]
 apply ext_getD
 ·rw [hlen, List.length_set, longer_length, lay_length]
  have h1 := trim_le (r.take c)
  omega
 ·intro i
  have hR : ((longer 0 (lay l (trim (r.take c)) p f) (p + c + 1)).set (p + c) (f x)).getD i 0 = if p + c = i then f x else if p ≤ i ∧ (trim (r.take c)).getD (i - p) 0 ≠ 0 then f ((trim (r.take c)).getD (i - p) 0) else l.getD i 0 := by
   rw [getD_set, longer_getD, lay_getD, longer_length]
   by_cases h1 : p + c = i
   ·rw [if_pos ⟨h1, by omega⟩, if_pos h1]
   ·rw [if_neg (fun h2 => h1 h2.1), if_neg h1]
  rw [hR, lay_getD]
  by_cases h1 : p + c = i
  ·subst h1
   rw [if_pos rfl, Nat.add_sub_cancel_left, hgd, if_pos rfl, if_pos ⟨by omega, hx⟩]
  ·rw [if_neg h1]
   by_cases h2 : p ≤ i
   ·rw [hgd (i - p), show (if i - p = c then x else (trim (r.take c)).getD (i - p) 0) = (trim (r.take c)).getD (i - p) 0 from if_neg (by omega)]
   ·rw [if_neg (fun h3 => h2 h3.1), if_neg (fun h3 => h2 h3.1)]
end Tb
set_option maxHeartbeats 2000000 in
theorem free_any (B g : Nat) (v1 bv nv ov : Value) (A : Option Addr) (cr : Nat) (W r : List Int) (p : Nat) (w : World) (hA : At w g 35 #[v1, bv, nv, ov]) (hW : OwnI w B ov W) (hr : RowIn w w.heap.size (.slice A r.length cr) r) (hp : p ≤ 10000) (hWl : W.length ≤ 10000) (hrl : r.length ≤ 10000) (hWs : Small W) :
  Calls Tryd.prog 28 #[.pointer (some ⟨g, 0, none⟩), .slice A r.length cr, .int .i64 (p : Int)] w fun e w' => Tells e (Tb.Free W r p) ∧ w' = w := by
 have KN := Lib.hid hr.nums
 have KW := Lib.hid hW
 obtain ⟨ao, co, rfl⟩ := hW.shape
 have a3 := hA.cell 3
 simp only [List.getElem?_toArray, List.getElem?_cons_zero, List.getElem?_cons_succ] at a3
 clear hA hW hr
 go_enter Tryd.func28, Tryd.ntmps28
 go_wp2_with fail
 go_loopg [7] r.length (fun q t7 wr => ∃ k : Nat, t7 = .int .i64 (k : Int) ∧ k ≤ r.length ∧ q = r.length - k ∧ Tb.FreeTo W r p k ∧ wr = w)
 case atStart => exact ⟨0, rfl, by omega, by omega, (fun c hc => by omega), rfl⟩
 case round =>
  obtain ⟨k, rfl, hk, hq, hF, rfl⟩ := hrel
  have KF := Lib.hid hF
  have Kq := Lib.hid hq
  clear hF hq
  by_cases hlt : k < r.length
  ·obtain ⟨x, hx⟩ : ∃ x, r[k]? = some x := ⟨_, List.getElem?_eq_getElem hlt⟩
   have hxd : r.getD k 0 = x := by rw [List.getD, hx]; rfl
   obtain ⟨b, o, rfl, _, c0⟩ := KN.out.each k hlt
   rw [hxd] at c0
   have Kx := Lib.hid hxd
   have q1 : (0 : Int) ≤ (k : Int) := by omega
   have q2 : (k : Int) < (r.length : Int) := by omega
   have q3 : ((k : Int)).toNat = k := by omega
   clear hx hxd
   cases hb : (x != 0)
   ·have Kb := Lib.hid hb
    go_wp2_with fail
    go_roundg (r.length - (k + 1))
    case measure => have := Kq.out; omega
    case rel =>
     refine ⟨k + 1, by go_num, by omega, rfl, fun c h1 h2 => ?_, rfl⟩
     by_cases he : c = k
     ·subst he; rw [Kx.out] at h2; have := Kb.out; simp at this; exact absurd this h2
     ·exact KF.out c (by omega) h2
   ·have Kb := Lib.hid hb
    by_cases hin : p + k < W.length
    ·have hinI : decide ((p : Int) + (k : Int) < (W.length : Int)) = true := by simpa using (by omega : (p : Int) + (k : Int) < (W.length : Int))
     have hW := KW.out
     unfold OwnI at hW
     obtain ⟨gw, cw, he, _⟩ := own_pos hW (by omega)
     simp only [Value.slice.injEq, true_and] at he
     obtain ⟨rfl, rfl⟩ := he
     obtain ⟨y, hy⟩ : ∃ y, W[p + k]? = some y := ⟨_, List.getElem?_eq_getElem hin⟩
     have hyd : W.getD (p + k) 0 = y := by rw [List.getD, hy]; rfl
     have cy := hW.cellAt (p + k) (by omega)
     rw [vals_get hy] at cy
     have Ky := Lib.hid hyd
     have p1 : (0 : Int) ≤ (p : Int) + (k : Int) := by omega
     have p2 : (p : Int) + (k : Int) < (W.length : Int) := by omega
     have p3 : ((p : Int) + (k : Int)).toNat = p + k := by omega
     have p4 : (p : Int) ≤ 10000 := by omega
     have p5 : (k : Int) ≤ 10000 := by omega
     clear hW hy hyd
     cases hc : (y != 0)
     ·have Kc := Lib.hid hc
      go_wp2_with fail
      go_roundg (r.length - (k + 1))
      case measure => have := Kq.out; omega
      case rel =>
       refine ⟨k + 1, by go_num, by omega, rfl, fun c h1 h2 => ?_, rfl⟩
       by_cases he : c = k
       ·subst he; rw [Ky.out]; have := Kc.out; simpa using this
       ·exact KF.out c (by omega) h2
     ·have Kc := Lib.hid hc
      go_wp2_with fail
      go_ret
      refine ⟨Tells.no rfl (fun hf => ?_), rfl⟩
      have h1 := hf k (by rw [Kx.out]; have := Kb.out; simpa using this)
      rw [Ky.out] at h1
      have := Kc.out
      rw [h1] at this; cases this
    ·have hinI : decide ((p : Int) + (k : Int) < (W.length : Int)) = false := by simpa using (by omega : ¬ (p : Int) + (k : Int) < (W.length : Int))
     have p2 : ¬ (p : Int) + (k : Int) < (W.length : Int) := by omega
     have p4 : (p : Int) ≤ 10000 := by omega
     have p5 : (k : Int) ≤ 10000 := by omega
     have p6 : (0 : Int) ≤ (p : Int) := by omega
     go_wp2_with fail
     go_roundg (r.length - (k + 1))
     case measure => have := Kq.out; omega
     case rel =>
      refine ⟨k + 1, by go_num, by omega, rfl, fun c h1 h2 => ?_, rfl⟩
      by_cases he : c = k
      ·subst he; exact Tb.getD_out (by omega)
      ·exact KF.out c (by omega) h2
  ·obtain rfl : k = r.length := by omega
   go_wp2_with fail
   go_ret
   exact ⟨Tells.yes rfl KF.out.all, rfl⟩
end Go.Proofs.YtjcijffhcmbhnaaDoor
