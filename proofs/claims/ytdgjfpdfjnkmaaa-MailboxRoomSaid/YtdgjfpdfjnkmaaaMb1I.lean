/-
  The walks over mailbox.Box[int]: New, Len, Offer, Poll.
-/
import Derived.Test.YtdgjfpdfjnkmaaaMbox
namespace Go.Proofs.Ytdgjfpdfjnkmaaa
open Go.RowKit Go.Conc
set_option linter.unusedVariables false

abbrev VI : Int → Value := Value.int .i64
abbrev BxI (w : World) (g q n : Nat) (L : List Int) : Prop := Bx VI 55 w g q n L

theorem bytesI : ∃ i, Try.prog.info? 3 = some i ∧ i.bytes = 8 := by
  have h : (Try.prog.info? 3).map (·.bytes) = some 8 := by kernel_rfl
  obtain ⟨i, hi, hb⟩ := Option.map_eq_some_iff.1 h
  exact ⟨i, hi, hb⟩
theorem mkI (n : Nat) (hn : n ≤ 64) (w : World) : (Instr.makeChan 53 (.int .i64 (n : Int))).run Try.prog w = .ok (.chan (some w.heap.size)) (w.alloc (.chan n #[] false 0 0 false)) := by
  obtain ⟨i, hi, hb⟩ := bytesI
  simpa using run_makeChan (P := Try.prog) (w := w) Try.underlying53 hi .i64 n (by omega) (by rw [hb]; omega)

set_option maxHeartbeats 400000 in
theorem newI_any (a : Int) (w : World) :
    Calls Try.prog 9 #[.int .i64 a] w fun e w' => e = .returned (.pointer (some ⟨w.heap.size + 1, 0, none⟩)) ∧
      (w.alloc (.chan (rm a) #[] false 0 0 false)).alloc (.cells #[.int .i64 (rm a : Int), .chan (some w.heap.size)] 55) = w' := by
  by_cases h1 : a < 1
  · have hr : rm a = 1 := by unfold rm; omega
    have hmc : ∀ w, (Instr.makeChan 53 (.int .i64 1)).run Try.prog w = .ok (.chan (some w.heap.size)) (w.alloc (.chan 1 #[] false 0 0 false)) := fun w => mkI 1 (by omega) w
    rw [hr]
    clear hr
    go_enter Try.func9, Try.ntmps9
    go_wp2
    go_ret
    exact ⟨rfl, rfl⟩
  · by_cases h2 : 64 < a
    · have hr : rm a = 64 := by unfold rm; omega
      have h3 : ¬ a ≤ 64 := by omega
      have hmc : ∀ w, (Instr.makeChan 53 (.int .i64 64)).run Try.prog w = .ok (.chan (some w.heap.size)) (w.alloc (.chan 64 #[] false 0 0 false)) := fun w => mkI 64 (by omega) w
      rw [hr]
      clear hr
      go_enter Try.func9, Try.ntmps9
      go_wp2
      go_ret
      exact ⟨rfl, rfl⟩
    · obtain ⟨k, rfl⟩ : ∃ k : Nat, a = (k : Int) := ⟨a.toNat, by omega⟩
      have hr : rm (k : Int) = k := by unfold rm; omega
      have h3 : (k : Int) ≤ 64 := by omega
      have hmc := mkI k (by omega)
      rw [hr]
      clear hr
      go_enter Try.func9, Try.ntmps9
      go_wp2
      go_ret
      exact ⟨rfl, rfl⟩

set_option maxHeartbeats 400000 in
theorem lenI_any (w : World) (g q n : Nat) (L : List Int) (hA : BxI w g q n L) :
    Calls Try.prog 19 #[.pointer (some ⟨g, 0, none⟩)] w fun e w' => e = .returned (.int .i64 (L.length : Int)) ∧ w = w' := by
  have c1 := hA.chan
  obtain ⟨s, r, hc⟩ := hA.ch
  have hlen := fun ty => run_len_chan (P := Try.prog) 53 ty Try.underlying53 hc
  simp at hlen
  clear hA hc
  go_enter Try.func19, Try.ntmps19
  go_wp2
  go_ret
  exact ⟨rfl, rfl⟩

set_option maxRecDepth 100000 in
theorem offerI_ok (x : Int) (w : World) (g q n : Nat) (L : List Int) (hA : BxI w g q n L) (hr : L.length < n) :
    Calls Try.prog 11 #[.pointer (some ⟨g, 0, none⟩), VI x] w fun e w' => e = .returned (.bool true) ∧ BxI w' g q n (L ++ [x]) ∧ Keeps [q] w w' := by
  have c1 := hA.chan
  obtain ⟨s, r, hc⟩ := hA.ch
  refine calls_of_loneTo fun cs => ?_
  have e : Frame.enter Try.prog 11 #[.pointer (some ⟨g, 0, none⟩), VI x] .normal = (base 11).at ⟨#[.pointer (some ⟨g, 0, none⟩), VI x, undef, undef, undef, undef, undef, undef, undef, undef, undef, undef, undef], []⟩ [.code (Try.f11.body.getD .skip)] := by
    simp [Frame.enter, Frame.at, Try.func11, base, Try.f11]
  rw [e]
  refine LoneTo.goes (n := 30) ?_
  simp only [Try.f11, Option.getD_some]
  s_c stepG_seq
  s_reg
  s_op
  s_c stepG_region_end
  s_c stepG_seq
  s_c stepG_seq
  s_reg
  s_op
  s_op
  s_op
  s_op
  s_c stepG_region_end
  s_reg
  s_op
  s_c stepG_region_end
  s_c stepG_seq
  s_reg
  s_stop
  refine LoneTo.step (step_lone_select_send_room (c := q) (cap := n) (buf := (L.map VI).toArray) (s := s) (r := r) (tm := false) (stepG_comm (cases := #[scase q (VI x) (.int .i64 0)]) (blocking := false) (shape := .select) (w' := w) rfl rfl (by decide) (by simp [go_sem, execOp, scase, Act.eval])) hc (by simpa using hr)) ?_
  rw [Frame.finish_at]
  walk_nrm
  refine LoneTo.goes (n := 20) ?_
  s_op
  s_op
  s_c stepG_region_end
  s_c stepG_block
  s_cond true
  s_c stepG_seq
  s_reg
  s_op
  s_c stepG_region_end
  s_c stepG_ret'
  s_stop
  refine LoneTo.done ⟨.returned (.bool true), _, rfl, ⟨rfl, ?_, ?_⟩, rfl, rfl, rfl, rfl, _, Try.func11, by simp [results, Try.f11, Frame.at]⟩
  · exact hA.turn _ _ _ (by simp) (by simp; omega)
  · exact keeps_chan _ _ _ _ _ _ _ _

set_option maxRecDepth 100000 in
theorem offerI_no (x : Int) (w : World) (g q n : Nat) (L : List Int) (hA : BxI w g q n L) (hr : n ≤ L.length) :
    Calls Try.prog 11 #[.pointer (some ⟨g, 0, none⟩), VI x] w fun e w' => e = .returned (.bool false) ∧ w = w' := by
  have c1 := hA.chan
  obtain ⟨s, r, hc⟩ := hA.ch
  refine calls_of_loneTo fun cs => ?_
  have e : Frame.enter Try.prog 11 #[.pointer (some ⟨g, 0, none⟩), VI x] .normal = (base 11).at ⟨#[.pointer (some ⟨g, 0, none⟩), VI x, undef, undef, undef, undef, undef, undef, undef, undef, undef, undef, undef], []⟩ [.code (Try.f11.body.getD .skip)] := by
    simp [Frame.enter, Frame.at, Try.func11, base, Try.f11]
  rw [e]
  refine LoneTo.goes (n := 30) ?_
  simp only [Try.f11, Option.getD_some]
  s_c stepG_seq
  s_reg
  s_op
  s_c stepG_region_end
  s_c stepG_seq
  s_c stepG_seq
  s_reg
  s_op
  s_op
  s_op
  s_op
  s_c stepG_region_end
  s_reg
  s_op
  s_c stepG_region_end
  s_c stepG_seq
  s_reg
  s_stop
  refine LoneTo.step (step_lone_select_send_full (c := q) (cap := n) (buf := (L.map VI).toArray) (s := s) (r := r) (tm := false) (stepG_comm (cases := #[scase q (VI x) (.int .i64 0)]) (blocking := false) (shape := .select) (w' := w) rfl rfl (by decide) (by simp [go_sem, execOp, scase, Act.eval])) hc (by simpa using hr)) ?_
  rw [Frame.finish_at]
  walk_nrm
  refine LoneTo.goes (n := 20) ?_
  s_op
  s_op
  s_c stepG_region_end
  s_c stepG_block
  s_cond false
  s_c stepG_seq
  s_reg
  s_op
  s_c stepG_region_end
  s_c stepG_ret'
  s_stop
  exact LoneTo.done ⟨.returned (.bool false), _, rfl, ⟨rfl, rfl⟩, rfl, rfl, rfl, rfl, _, Try.func11, by simp [results, Try.f11, Frame.at]⟩

set_option maxRecDepth 100000 in
theorem pollI_ok (x : Int) (w : World) (g q n : Nat) (L : List Int) (hA : BxI w g q n (x :: L)) :
    Calls Try.prog 13 #[.pointer (some ⟨g, 0, none⟩)] w fun e w' => e = .returned (.tuple #[VI x, .bool true]) ∧ BxI w' g q n L ∧ Keeps [q] w w' := by
  have c1 := hA.chan
  have hle := hA.le
  obtain ⟨s, r, hc⟩ := hA.ch
  refine calls_of_loneTo fun cs => ?_
  have e : Frame.enter Try.prog 13 #[.pointer (some ⟨g, 0, none⟩)] .normal = (base 13).at ⟨#[.pointer (some ⟨g, 0, none⟩), undef, undef, undef, undef, undef, undef, undef, undef, undef, undef, undef, undef, undef, undef, undef], []⟩ [.code (Try.f13.body.getD .skip)] := by
    simp [Frame.enter, Frame.at, Try.func13, base, Try.f13]
  rw [e]
  refine LoneTo.goes (n := 30) ?_
  simp only [Try.f13, Option.getD_some]
  s_c stepG_seq
  s_reg
  s_op
  s_op
  s_c stepG_region_end
  s_c stepG_seq
  s_reg
  s_op
  s_op
  s_op
  s_op
  s_c stepG_region_end
  s_c stepG_seq
  s_reg
  s_stop
  refine LoneTo.step (step_lone_select_recv_buf (c := q) (z := .int .i64 0) (cap := n) (buf := ((x :: L).map VI).toArray) (closed := false) (s := s) (r := r) (tm := false) (stepG_comm (cases := #[rcase q (.int .i64 0)]) (blocking := false) (shape := .select) (w' := w) rfl rfl (by decide) (by simp [go_sem, execOp, rcase, Act.eval])) hc (by simp)) ?_
  have hb : (((x :: L).map VI).toArray.getD 0 undef) = VI x := rfl
  rw [hb]
  rw [Frame.finish_at]
  walk_nrm
  refine LoneTo.goes (n := 20) ?_
  s_op
  s_op
  s_c stepG_region_end
  s_c stepG_block
  s_cond true
  s_c stepG_seq
  s_reg
  s_op
  s_op
  s_c stepG_region_end
  s_c stepG_seq
  s_reg
  s_op
  s_op
  s_op
  s_c stepG_region_end
  s_c stepG_ret'
  s_stop
  refine LoneTo.done ⟨.returned (.tuple #[VI x, .bool true]), _, rfl, ⟨rfl, ?_, ?_⟩, rfl, rfl, rfl, rfl, _, Try.func13, by simp [results, Try.f13, Frame.at]⟩
  · exact hA.turn _ _ _ (by simp [List.take_of_length_le]) (by simp at hle; omega)
  · exact keeps_chan _ _ _ _ _ _ _ _

set_option maxRecDepth 100000 in
theorem pollI_no (w : World) (g q n : Nat) (hA : BxI w g q n []) :
    Calls Try.prog 13 #[.pointer (some ⟨g, 0, none⟩)] w fun e w' => e = .returned (.tuple #[.int .i64 0, .bool false]) ∧ w = w' := by
  have c1 := hA.chan
  obtain ⟨s, r, hc⟩ := hA.ch
  refine calls_of_loneTo fun cs => ?_
  have e : Frame.enter Try.prog 13 #[.pointer (some ⟨g, 0, none⟩)] .normal = (base 13).at ⟨#[.pointer (some ⟨g, 0, none⟩), undef, undef, undef, undef, undef, undef, undef, undef, undef, undef, undef, undef, undef, undef, undef], []⟩ [.code (Try.f13.body.getD .skip)] := by
    simp [Frame.enter, Frame.at, Try.func13, base, Try.f13]
  rw [e]
  refine LoneTo.goes (n := 30) ?_
  simp only [Try.f13, Option.getD_some]
  s_c stepG_seq
  s_reg
  s_op
  s_op
  s_c stepG_region_end
  s_c stepG_seq
  s_reg
  s_op
  s_op
  s_op
  s_op
  s_c stepG_region_end
  s_c stepG_seq
  s_reg
  s_stop
  refine LoneTo.step (step_lone_select_default (c := q) (z := .int .i64 0) (cap := n) (s := s) (r := r) (tm := false) (stepG_comm (cases := #[rcase q (.int .i64 0)]) (blocking := false) (shape := .select) (w' := w) rfl rfl (by decide) (by simp [go_sem, execOp, rcase, Act.eval])) hc) ?_
  rw [Frame.finish_at]
  walk_nrm
  refine LoneTo.goes (n := 20) ?_
  s_op
  s_op
  s_c stepG_region_end
  s_c stepG_block
  s_cond false
  s_c stepG_seq
  s_reg
  s_op
  s_c stepG_region_end
  s_c stepG_seq
  s_reg
  s_op
  s_op
  s_op
  s_c stepG_region_end
  s_c stepG_ret'
  s_stop
  exact LoneTo.done ⟨.returned (.tuple #[.int .i64 0, .bool false]), _, rfl, ⟨rfl, rfl⟩, rfl, rfl, rfl, rfl, _, Try.func13, by simp [results, Try.f13, Frame.at]⟩

end Go.Proofs.Ytdgjfpdfjnkmaaa
