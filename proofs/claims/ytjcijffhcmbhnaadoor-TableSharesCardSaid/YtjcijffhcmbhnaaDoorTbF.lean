import Derived.Test.YtjcijffhcmbhnaaDoorTbG
import Derived.Test.YtjcijffhcmbhnaaDoorTbS
import Derived.Maps.OwnSet
import Derived.Lib.OthersKept
import Derived.Laws.IdiomStrings
namespace Go.Proofs.YtjcijffhcmbhnaaDoor
set_option maxRecDepth 100000
open Go.RowKit
open BitKit
set_option linter.unusedVariables false
set_option linter.unusedSimpArgs false
def Pow (B : Nat) (w : World) : Prop := Lib.TabBelow Tryd.prog B w "internal/strconv.uint64pow10" .u64 Lib.pow10Tab
theorem Pow.up {B B' : Nat} {w w' : World} (h : Pow B w) (hb : Below B w w') (hB : B ≤ B') : Pow B' w' := fun w2 h2 => h w2 (hb.trans ⟨h2.os, h2.tape, h2.output, h2.size, fun k hk => h2.block k (by omega)⟩)
theorem Tryd.infoU8 : (Tryd.prog.info? 5).map (fun i => (i.zero, i.size, i.bytes)) = some (some (.int .u8 0), 1, 1) := by kernel_rfl
theorem bytes_one (l : List UInt8) : ∀ u ∈ Lib.byteCells l, u.oneCell' = true := by
 intro u hu
 simp only [Lib.byteCells, List.mem_map] at hu
 obtain ⟨x, _, rfl⟩ := hu
 rfl
theorem bytes_length (l : List UInt8) : (Lib.byteCells l).length = l.length := by simp [Lib.byteCells]
theorem bytes_append (l m : List UInt8) : Lib.byteCells (l ++ m) = Lib.byteCells l ++ Lib.byteCells m := by simp [Lib.byteCells]
def OwnB (w : World) (B : Nat) (v : Value) (l : List UInt8) : Prop := w.ownsRow B 5 1 v l.length (Lib.byteCells l)
theorem OwnB.shape {w : World} {B : Nat} {v : Value} {l : List UInt8} (h : OwnB w B v l) : ∃ a c, v = .slice a l.length c := by
 obtain ⟨a, c, h1, _⟩ := own_slice h
 exact ⟨a, c, h1⟩
theorem OwnB.conv {w : World} {B : Nat} {v : Value} {l : List UInt8} (h : OwnB w B v l) : (convert 38 9 v).run Tryd.prog w = .ok (.string ⟨l.toArray⟩) w := by
 rcases own_shape h with ⟨rfl, h1, h2⟩ | ⟨g, cap, rfl, hc, _⟩
 ·obtain rfl : l = [] := List.eq_nil_of_length_eq_zero h1
  rw [run_convert_bytes_string w _ _ 5 none 0 0 Tryd.underlying38 Tryd.underlying5 Tryd.underlying9]
  rfl
 ·refine run_convert_bytes_back w _ _ 5 _ cap l Tryd.underlying38 Tryd.underlying5 Tryd.underlying9 fun j hj => ?_
  have h1 := h.cellAt (g := g) j (by omega)
  rw [Addr.add_mid, Nat.zero_add, h1]
  simp [Lib.byteCells, hj]
set_option maxHeartbeats 1000000 in
theorem text_any (A : Option Addr) (c B : Nat) (l : List Int) (w : World) (h : RowIn w B (.slice A l.length c) l) (hB : B ≤ w.heap.size) (hl : l.length ≤ 1000) (hP : Pow w.heap.size w) :
  Calls Tryd.prog 21 #[.slice A l.length c] w fun e w' => e = .returned (.string ⟨(Tb.txt l).toArray⟩) ∧ Below w.heap.size w w' := by
 obtain ⟨i0, hi, hz0, hz1, hz2⟩ := info_parts Tryd.infoU8
 have KN := Lib.hid h.nums
 have KP := Lib.hid hP
 clear h hP
 go_enter Tryd.func21, Tryd.ntmps21
 go_wp2_with fail
 go_loopg [3, 8] l.length (fun q t3 t8 wr => ∃ k : Nat, t8 = .int .i64 (k : Int) ∧ k ≤ l.length ∧ q = l.length - k ∧ OwnB wr w.heap.size t3 (Tb.txt (l.take k)) ∧ Below w.heap.size w wr)
 case atStart => exact ⟨0, rfl, by omega, by omega, World.ownsRow_nil _ _ _ _, Below.refl _ _⟩
 case round =>
  obtain ⟨k, rfl, hk, hq, hO, hb⟩ := hrel
  have KO := Lib.hid hO
  have Kb := Lib.hid hb
  have Kq := Lib.hid hq
  obtain ⟨ao, co, rfl⟩ := hO.shape
  have hszr := hb.size
  clear hO hb hq
  by_cases hlt : k < l.length
  ·obtain ⟨x, hx⟩ : ∃ x, l[k]? = some x := ⟨_, List.getElem?_eq_getElem hlt⟩
   have hxd : l.getD k 0 = x := by rw [List.getD, hx]; rfl
   obtain ⟨b, o, rfl, hbB, c0⟩ := KN.out.each k hlt
   have hxr := KN.out.rx k hlt
   rw [hxd] at c0 hxr
   have c0 := (Kb.out.cell (p := ⟨b, o + k, none⟩) (show b < w.heap.size by omega)).trans c0
   have q1 : (0 : Int) ≤ (k : Int) := by omega
   have q2 : (k : Int) < (l.length : Int) := by omega
   have q3 : ((k : Int)).toNat = k := by omega
   have hs := Tb.take_snoc hx
   have htl : (Tb.txt (l.take k)).length ≤ 22 * k := by
    have h1 := Tb.txt_length (l := l.take k) (fun y hy => by
     obtain ⟨i, hi⟩ := List.mem_iff_getElem?.1 (List.mem_of_mem_take hy)
     have hil := (List.getElem?_eq_some_iff.1 hi).1
     have := KN.out.rx i hil
     rwa [show l.getD i 0 = y by rw [List.getD, hi]; rfl] at this)
    rw [List.length_take] at h1
    omega
   have hil := Lib.itoa_length_le x hxr.1 hxr.2
   have hcall := append_int w.heap.size (Tb.txt (l.take k)).length x hxr.1 hxr.2 (.slice ao (Tb.txt (l.take k)).length co) _ wr KO.out hszr (by omega) (KP.out.on Kb.out)
   have Kcall := Lib.hid hcall
   have Kl := Lib.hid (And.intro htl hil)
   have Ks := Lib.hid hs
   clear hx hxd hcall htl hil hs hxr
   go_wp2_with fail
   refine Kcall.out.mono ?_
   rintro e w1 ⟨v1, rfl, hO1, hb1, _⟩
   have hO1' : OwnB w1 w.heap.size v1 (Tb.txt (l.take k) ++ Lib.itoa x) := by
    unfold OwnB
    rw [List.length_append, bytes_append]; exact hO1
   generalize hT : Tb.txt (l.take k) ++ Lib.itoa x = T1 at hO1'
   have hlen1 : T1.length ≤ 30000 := by
    have := Kl.out
    rw [← hT, List.length_append]; omega
   obtain ⟨a1, c1, rfl⟩ := hO1'.shape
   have KO1 := Lib.hid hO1'
   have KT := Lib.hid hT
   have Kb1 := Lib.hid (Kb.out.trans hb1)
   have hsz1 := hb1.size
   clear hO1 hb1 hO1' hT
   go_wp2_with (at_builtin; refine wpList_append_own2 _ rfl (.tmp 14) (.tmp 15) 38 rfl w.heap.size 5 i0 _ 1 1 Tryd.underlying38 hi hz0 hz1 hz2 rfl (by decide) (.slice a1 T1.length c1) _ (Lib.byteCells T1) rfl (World.ownsRow.alloc KO1.out _) ⟨w1.heap.size, 0, none⟩ 1 1 [.int .u8 32] rfl rfl (cell_one_new _ _ _) (one_one rfl) ?c1 ?c2 ?c3 ?_)
   case c1 => unfold maxLen; omega
   case c2 => omega
   case c3 => rw [World.size_alloc]; omega
   intro v' w2 hown hgrow hsn
   have KO2 := Lib.hid (show OwnB w2 w.heap.size v' (Tb.txt (l.take (k + 1))) by
    rw [Ks.out, Tb.txt_snoc, ← List.append_assoc, KT.out]
    unfold OwnB
    rw [List.length_append, bytes_append]; exact hown)
   have Kb2 := Lib.hid ((Kb1.out.alloc (by omega) _).grown hgrow (by rw [World.size_alloc]; omega) (fun q hq => (KO1.out.lt q hq).1))
   clear hown hgrow hsn
   go_wp2_with fail
   go_roundg (l.length - (k + 1))
   case measure => have := Kq.out; omega
   case rel => exact ⟨k + 1, by go_num, by omega, rfl, KO2.out, Kb2.out⟩
  ·obtain rfl : k = l.length := by omega
   have hconv := KO.out.conv
   rw [List.take_length] at hconv KO ⊢
   go_wp2_with fail
   go_ret
   exact ⟨rfl, Kb.out⟩
end Go.Proofs.YtjcijffhcmbhnaaDoor
