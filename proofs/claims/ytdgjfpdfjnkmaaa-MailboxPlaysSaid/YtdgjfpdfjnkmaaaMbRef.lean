/-
  The document's box: a room, and a row of ints.
-/
import Derived.Test.YtdgjfpdfjnkmaaaMbMoves
import Derived.Test.YtdgjfpdfjnkmaaaSpare
namespace Go.Proofs.Ytdgjfpdfjnkmaaa
open Go.RowKit
set_option linter.unusedVariables false

/-- Block rg is the document's box: there is room for n; L waits. -/
structure RB (w : World) (rg n : Nat) (L : List Int) : Prop where
  ex : ∃ A c, At w rg 37 #[.int .i64 (n : Int), .slice A L.length c] ∧ IAt w A L ∧ L.length ≤ c

section
variable {w w' : World} {rg n : Nat} {L : List Int} {S : List Nat}
theorem RB.keeps (h : RB w rg n L) (hk : Keeps S w w') (hg : rg ∉ S) (hS : ∀ b ∈ S, ∀ cs, ¬ At w b 3 cs) : RB w' rg n L := by
  obtain ⟨A, c, h1, h2, h3⟩ := h.ex
  exact ⟨A, c, h1.keeps hk hg, h2.keeps hk hS, h3⟩
theorem RB.drewN (h : RB w rg n L) (k : Nat) : RB (w.drewN k) rg n L := by
  obtain ⟨A, c, h1, h2, h3⟩ := h.ex
  exact ⟨A, c, h1.drewN k, h2.drewN k, h3⟩
theorem RB.alloc (h : RB w rg n L) (o : Obj) : RB (w.alloc o) rg n L := by
  obtain ⟨A, c, h1, h2, h3⟩ := h.ex
  exact ⟨A, c, h1.alloc o, h2.alloc o, h3⟩
theorem RB.small (h : RB w rg n L) : Small L := by obtain ⟨A, c, h1, h2, h3⟩ := h.ex; exact h2.small
theorem RB.new (w : World) (n : Nat) : RB (w.alloc (.cells #[.int .i64 (n : Int), .slice none 0 0] 37)) w.heap.size n [] :=
  ⟨none, 0, At.new w _ _, IAt.nil _ _, by simp⟩
theorem RB.at_ (h : RB w rg n L) : ∃ cs, At w rg 37 cs := by obtain ⟨A, c, h1, _⟩ := h.ex; exact ⟨_, h1⟩
theorem RB.notInt (h : RB w rg n L) : ∀ b ∈ [rg], ∀ cs, ¬ At w b 3 cs := by
  intro b hb cs ha
  obtain ⟨cs', h'⟩ := h.at_
  simp at hb
  subst hb
  exact absurd (h'.type ha) (by decide)
end

set_option maxHeartbeats 400000 in
theorem rnew_any (a : Int) (w : World) :
    Calls Try.prog 10 #[.int .i64 a] w fun e w' => e = .returned (.pointer (some ⟨w.heap.size, 0, none⟩)) ∧ w.alloc (.cells #[.int .i64 (rm a : Int), .slice none 0 0] 37) = w' := by
  by_cases h1 : a < 1
  · have hr : rm a = 1 := by unfold rm; omega
    have h2 : ¬ (64 : Int) < a := by omega
    have h3 : a ≤ 64 := by omega
    have h4 : a ≤ 1 := by omega
    have h5 : ¬ 1 < a := by omega
    rw [hr]
    clear hr
    go_enter Try.func10, Try.ntmps10
    go_wp2
    go_ret
    exact ⟨rfl, rfl⟩
  · by_cases h2 : 64 < a
    · have hr : rm a = 64 := by unfold rm; omega
      have h3 : ¬ a ≤ 64 := by omega
      rw [hr]
      clear hr
      go_enter Try.func10, Try.ntmps10
      go_wp2
      go_ret
      exact ⟨rfl, rfl⟩
    · obtain ⟨k, rfl⟩ : ∃ k : Nat, a = (k : Int) := ⟨a.toNat, by omega⟩
      have hr : rm (k : Int) = k := by unfold rm; omega
      have h3 : (k : Int) ≤ 64 := by omega
      rw [hr]
      clear hr
      by_cases h6 : 1 < k
      · have h4 : (1 : Int) < (k : Int) := by omega
        go_enter Try.func10, Try.ntmps10
        go_wp2
        go_ret
        exact ⟨rfl, rfl⟩
      · obtain rfl : k = 1 := by omega
        go_enter Try.func10, Try.ntmps10
        go_wp2
        go_ret
        exact ⟨rfl, rfl⟩

set_option maxRecDepth 100000 in
set_option maxHeartbeats 1600000 in
theorem roffer_no (x : Int) (w : World) (rg n : Nat) (L : List Int) (h : RB w rg n L) (hr : n ≤ L.length) :
    Calls Try.prog 12 #[.pointer (some ⟨rg, 0, none⟩), .int .i64 x] w fun e w' => e = .returned (.bool false) ∧ ∃ k, w' = w.drewN k := by
  obtain ⟨A, c, hA, hI, hc⟩ := h.ex
  have c0 := hA.cell 0
  have c1 := hA.cell 1
  simp at c0 c1
  clear h hA hI
  go_enter Try.func12, Try.ntmps12
  go_wp2_with fail
  go_quiet (fail)
  go_wp2_with fail
  go_ret
  exact ⟨rfl, _, rfl⟩

set_option maxRecDepth 100000 in
set_option maxHeartbeats 1600000 in
theorem roffer_ok (x : Int) (w : World) (rg n : Nat) (L : List Int) (h : RB w rg n L) (hx : -9223372036854775808 ≤ x ∧ x ≤ 9223372036854775807) (hr : L.length < n) (hn : n ≤ 64) :
    Calls Try.prog 12 #[.pointer (some ⟨rg, 0, none⟩), .int .i64 x] w fun e w' => e = .returned (.bool true) ∧ RB w' rg n (L ++ [x]) ∧ Keeps [rg] w w' := by
  obtain ⟨i0, hi, hz0, hz1, hz2⟩ := info_parts infoInts
  obtain ⟨A, c, hA, hI, hc⟩ := h.ex
  have c0 := hA.cell 0
  have c1 := hA.cell 1
  simp at c0 c1
  have HA := Lib.hid hA
  have HI := Lib.hid hI
  have ca : ∀ k o, ((w.drewN k).alloc o).cell? ⟨rg, 1, none⟩ = some (.slice A L.length c) := fun k o => by rw [((hA.drewN k).alloc o).cell]; rfl
  have hnn : ¬ n ≤ L.length := by omega
  clear h hA hI
  go_enter Try.func12, Try.ntmps12
  go_wp2_with fail
  go_quiet (fail)
  go_wp2_with (at_builtin; go_loud (refine wpList_append_own3 _ rfl (.tmp 16) (.tmp 20) 34 rfl w.heap.size 3 i0 _ 1 8 Try.underlying34 hi hz0 hz1 hz2 rfl (by decide) _ 0 [] rfl (own_empty _ _ _ (Nat.le_refl _)) A L.length c (vals L) rfl ?c1 ?c2 (vals_one L) ?c3 ?c4 ?c5 ?_))
  case c1 => rw [vals_length]; omega
  case c2 => exact ((HI.out.heap rfl).alloc _).lies
  case c3 => unfold maxLen; omega
  case c4 => omega
  case c5 => simp
  intro v1 w5 hown1 hgrow1 hsn1
  have K5 := keeps_new hgrow1
  have O1 := Lib.hid hown1
  have HK5 := Lib.hid K5
  clear hown1 hgrow1 hsn1 K5
  go_wp2_with (at_builtin; refine wpList_append_own3 _ rfl (.tmp 21) (.tmp 23) 34 rfl w.heap.size 3 i0 _ 1 8 Try.underlying34 hi hz0 hz1 hz2 rfl (by decide) _ _ _ rfl (O1.out.alloc _) (some ⟨w5.heap.size, 0, none⟩) 1 1 [.int .i64 x] rfl ?c1 ?c2 ?c3 ?c4 ?c5 ?c6 ?_)
  case c1 => rfl
  case c2 =>
    intro j u hj
    match j, hj with
    | 0, hj => simp at hj; subst hj; exact ⟨_, rfl, by simp [Addr.add]⟩
  case c3 => intro u hu; simp at hu; subst hu; rfl
  case c4 => unfold maxLen; omega
  case c5 => omega
  case c6 => have := HK5.out.size; simp at this ⊢; omega
  intro v3 w6 hown3 hgrow3 hsn3
  have K6 := (HK5.out.alloc (.cells #[.int .i64 x] 3)).grown hgrow3 (fun k hk => .inr (by have := (O1.out.lt k hk).1; simpa using this))
  have hA6 : At w6 rg 37 #[.int .i64 (n : Int), .slice A L.length c] := (show At _ rg 37 _ from HA.out.drewN _).keeps K6 (by simp)
  have f1 := hA6.cell 1
  have z1 := hA6.frozen 1
  simp at f1
  have e3 : vals L ++ [Value.int .i64 x] = vals (L ++ [x]) := by rw [vals_snoc]
  rw [e3] at hown3
  have hsm : Small (L ++ [x]) := HI.out.small.append (Small.one hx)
  obtain ⟨b3, p3, rfl, hp3, i3, _⟩ := IAt.own hown3 hsm
  have HA6 := Lib.hid hA6
  have I3 := Lib.hid i3
  have HK6 := Lib.hid K6
  clear hown3 hgrow3 hsn3 K6 hA6 e3 i3 c0 c1
  generalize hm3 : (L ++ [x]).length = m3 at *
  have HM3 := Lib.hid hm3
  clear hm3
  go_wp2_with fail
  go_ret
  have hA7 := (HA6.out.set 1 (.slice b3 m3 p3))
  have hm3 := HM3.out
  subst hm3
  refine ⟨rfl, ⟨b3, p3, by simpa using hA7, I3.out.keeps ((Keeps.refl [rg] w6).set (.inl (by simp)) _) (fun b hb cs ha => ?_), hp3⟩, ?_⟩
  · simp at hb
    subst hb
    exact absurd (HA6.out.type ha) (by decide)
  · have K7 : Keeps [] w w6 := ⟨HK6.out.os, HK6.out.tape, HK6.out.output, HK6.out.size, HK6.out.block⟩
    exact (K7.mono (by simp)).set (.inl (by simp)) _

set_option maxHeartbeats 1600000 in
theorem rpoll_no (w : World) (rg n : Nat) (h : RB w rg n []) :
    Calls Try.prog 14 #[.pointer (some ⟨rg, 0, none⟩)] w fun e w' => e = .returned (.tuple #[.int .i64 0, .bool false]) ∧ w = w' := by
  obtain ⟨A, c, hA, hI, hc⟩ := h.ex
  have c1 := hA.cell 1
  simp at c1
  clear h hA hI
  go_enter Try.func14, Try.ntmps14
  go_wp2_with fail
  go_ret2
  exact ⟨rfl, rfl⟩

set_option maxHeartbeats 1600000 in
theorem rpoll_ok (x : Int) (w : World) (rg n : Nat) (L : List Int) (h : RB w rg n (x :: L)) :
    Calls Try.prog 14 #[.pointer (some ⟨rg, 0, none⟩)] w fun e w' => e = .returned (.tuple #[.int .i64 x, .bool true]) ∧ RB w' rg n L ∧ Keeps [rg] w w' := by
  have hnot := h.notInt
  obtain ⟨A, c, hA, hI, hc⟩ := h.ex
  have c1 := hA.cell 1
  have z1 := hA.frozen 1
  simp at c1
  obtain ⟨b, o, rfl, hlt, c2⟩ := hI.cell (i := 0) (by simp)
  simp at c2
  have hl63 := hI.len
  simp at hl63
  obtain ⟨A', hA'⟩ : ∃ A' : Option Addr, A' = (if c = 1 then some ⟨b, o, none⟩ else (some ⟨b, o, none⟩ : Option Addr).map (·.add 1)) := ⟨_, rfl⟩
  have hcut : ∀ W, (Instr.slice 34 (.slice (some ⟨b, o, none⟩) (L.length + 1) c) (some (.int .i64 1)) none none).run Try.prog W = .ok (.slice A' L.length (c - 1)) W := fun W => by
    rw [hA']
    have := cut_lo (some ⟨b, o, none⟩) (L.length + 1) 1 c (by omega) W
    simpa using this
  have hI' := hI.cut (c := c) 1 (by simp) hc
  rw [← hA'] at hI'
  have HI := Lib.hid hI'
  have HA := Lib.hid hA
  have hc' : L.length ≤ c - 1 := by simp at hc; omega
  have HN := Lib.hid hnot
  clear hA hI hI' hA' hc h hnot
  go_enter Try.func14, Try.ntmps14
  go_wp2_with fail
  go_ret2
  have hk := (Keeps.refl [rg] w).set (p := ⟨rg, 1, none⟩) (.inl (by simp)) (.slice A' L.length (c - 1))
  refine ⟨rfl, ⟨A', c - 1, by simpa using HA.out.set 1 (.slice A' L.length (c - 1)), ?_, hc'⟩, hk⟩
  have := HI.out.keeps hk HN.out
  simpa using this

end Go.Proofs.Ytdgjfpdfjnkmaaa
