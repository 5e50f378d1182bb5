/-
  The walks over mailbox.Box[string]: New, Len, Offer, Poll.
-/
import Derived.Test.YtdgjfpdfjnkmaaaMbox
namespace Go.Proofs.Ytdgjfpdfjnkmaaa
open Go.RowKit Go.Conc
set_option linter.unusedVariables false

abbrev VS : ByteArray → Value := Value.string
abbrev BxS (w : World) (g q n : Nat) (L : List ByteArray) : Prop := Bx VS 58 w g q n L

theorem bytesS : ∃ i, Try.prog.info? 9 = some i ∧ i.bytes = 16 := by
  have h : (Try.prog.info? 9).map (·.bytes) = some 16 := by kernel_rfl
  obtain ⟨i, hi, hb⟩ := Option.map_eq_some_iff.1 h
  exact ⟨i, hi, hb⟩
theorem mkS (n : Nat) (hn : n ≤ 64) (w : World) : (Instr.makeChan 56 (.int .i64 (n : Int))).run Try.prog w = .ok (.chan (some w.heap.size)) (w.alloc (.chan n #[] false 0 0 false)) := by
  obtain ⟨i, hi, hb⟩ := bytesS
  simpa using run_makeChan (P := Try.prog) (w := w) Try.underlying56 hi .i64 n (by omega) (by rw [hb]; omega)

set_option maxHeartbeats 400000 in
theorem newS_any (a : Int) (w : World) :
    Calls Try.prog 21 #[.int .i64 a] w fun e w' => e = .returned (.pointer (some ⟨w.heap.size + 1, 0, none⟩)) ∧
      (w.alloc (.chan (rm a) #[] false 0 0 false)).alloc (.cells #[.int .i64 (rm a : Int), .chan (some w.heap.size)] 58) = w' := by
  by_cases h1 : a < 1
  · have hr : rm a = 1 := by unfold rm; omega
    have hmc : ∀ w, (Instr.makeChan 56 (.int .i64 1)).run Try.prog w = .ok (.chan (some w.heap.size)) (w.alloc (.chan 1 #[] false 0 0 false)) := fun w => mkS 1 (by omega) w
    rw [hr]
    clear hr
    go_enter Try.func21, Try.ntmps21
    go_wp2
    go_ret
    exact ⟨rfl, rfl⟩
  · by_cases h2 : 64 < a
    · have hr : rm a = 64 := by unfold rm; omega
      have h3 : ¬ a ≤ 64 := by omega
      have hmc : ∀ w, (Instr.makeChan 56 (.int .i64 64)).run Try.prog w = .ok (.chan (some w.heap.size)) (w.alloc (.chan 64 #[] false 0 0 false)) := fun w => mkS 64 (by omega) w
      rw [hr]
      clear hr
      go_enter Try.func21, Try.ntmps21
      go_wp2
      go_ret
      exact ⟨rfl, rfl⟩
    · obtain ⟨k, rfl⟩ : ∃ k : Nat, a = (k : Int) := ⟨a.toNat, by omega⟩
      have hr : rm (k : Int) = k := by unfold rm; omega
      have h3 : (k : Int) ≤ 64 := by omega
      have hmc := mkS k (by omega)
      rw [hr]
      clear hr
      go_enter Try.func21, Try.ntmps21
      go_wp2
      go_ret
      exact ⟨rfl, rfl⟩

set_option maxHeartbeats 400000 in
theorem lenS_any (w : World) (g q n : Nat) (L : List ByteArray) (hA : BxS w g q n L) :
    Calls Try.prog 24 #[.pointer (some ⟨g, 0, none⟩)] w fun e w' => e = .returned (.int .i64 (L.length : Int)) ∧ w = w' := by
  have c1 := hA.chan
  obtain ⟨s, r, hc⟩ := hA.ch
  have hlen := fun ty => run_len_chan (P := Try.prog) 56 ty Try.underlying56 hc
  simp at hlen
  clear hA hc
  go_enter Try.func24, Try.ntmps24
  go_wp2
  go_ret
  exact ⟨rfl, rfl⟩

set_option maxRecDepth 100000 in
theorem offerS_ok (x : ByteArray) (w : World) (g q n : Nat) (L : List ByteArray) (hA : BxS w g q n L) (hr : L.length < n) :
    Calls Try.prog 22 #[.pointer (some ⟨g, 0, none⟩), VS x] w fun e w' => e = .returned (.bool true) ∧ BxS w' g q n (L ++ [x]) ∧ Keeps [q] w w' := by
  have c1 := hA.chan
  obtain ⟨s, r, hc⟩ := hA.ch
  refine calls_of_loneTo fun cs => ?_
  have e : Frame.enter Try.prog 22 #[.pointer (some ⟨g, 0, none⟩), VS x] .normal = (base 22).at ⟨#[.pointer (some ⟨g, 0, none⟩), VS x, undef, undef, undef, undef, undef, undef, undef, undef, undef, undef, undef], []⟩ [.code (Try.f22.body.getD .skip)] := by
    simp [Frame.enter, Frame.at, Try.func22, base, Try.f22]
  rw [e]
  refine LoneTo.goes (n := 30) ?_
  simp only [Try.f22, Option.getD_some]
  s_c stepG_seq
  s_reg
  s_op
  s_c stepG_region_end
  s_c stepG_seq
  s_c stepG_seq
  s_reg
  s_op
  s_op
  s_op
  s_op
  s_c stepG_region_end
  s_reg
  s_op
  s_c stepG_region_end
  s_c stepG_seq
  s_reg
  s_stop
  refine LoneTo.step (step_lone_select_send_room (c := q) (cap := n) (buf := (L.map VS).toArray) (s := s) (r := r) (tm := false) (stepG_comm (cases := #[scase q (VS x) (.string ⟨#[]⟩)]) (blocking := false) (shape := .select) (w' := w) rfl rfl (by decide) (by simp [go_sem, execOp, scase, Act.eval])) hc (by simpa using hr)) ?_
  rw [Frame.finish_at]
  walk_nrm
  refine LoneTo.goes (n := 20) ?_
  s_op
  s_op
  s_c stepG_region_end
  s_c stepG_block
  s_cond true
  s_c stepG_seq
  s_reg
  s_op
  s_c stepG_region_end
  s_c stepG_ret'
  s_stop
  refine LoneTo.done ⟨.returned (.bool true), _, rfl, ⟨rfl, ?_, ?_⟩, rfl, rfl, rfl, rfl, _, Try.func22, by simp [results, Try.f22, Frame.at]⟩
  · exact hA.turn _ _ _ (by simp) (by simp; omega)
  · exact keeps_chan _ _ _ _ _ _ _ _

set_option maxRecDepth 100000 in
theorem offerS_no (x : ByteArray) (w : World) (g q n : Nat) (L : List ByteArray) (hA : BxS w g q n L) (hr : n ≤ L.length) :
    Calls Try.prog 22 #[.pointer (some ⟨g, 0, none⟩), VS x] w fun e w' => e = .returned (.bool false) ∧ w = w' := by
  have c1 := hA.chan
  obtain ⟨s, r, hc⟩ := hA.ch
  refine calls_of_loneTo fun cs => ?_
  have e : Frame.enter Try.prog 22 #[.pointer (some ⟨g, 0, none⟩), VS x] .normal = (base 22).at ⟨#[.pointer (some ⟨g, 0, none⟩), VS x, undef, undef, undef, undef, undef, undef, undef, undef, undef, undef, undef], []⟩ [.code (Try.f22.body.getD .skip)] := by
    simp [Frame.enter, Frame.at, Try.func22, base, Try.f22]
  rw [e]
  refine LoneTo.goes (n := 30) ?_
  simp only [Try.f22, Option.getD_some]
  s_c stepG_seq
  s_reg
  s_op
  s_c stepG_region_end
  s_c stepG_seq
  s_c stepG_seq
  s_reg
  s_op
  s_op
  s_op
  s_op
  s_c stepG_region_end
  s_reg
  s_op
  s_c stepG_region_end
  s_c stepG_seq
  s_reg
  s_stop
  refine LoneTo.step (step_lone_select_send_full (c := q) (cap := n) (buf := (L.map VS).toArray) (s := s) (r := r) (tm := false) (stepG_comm (cases := #[scase q (VS x) (.string ⟨#[]⟩)]) (blocking := false) (shape := .select) (w' := w) rfl rfl (by decide) (by simp [go_sem, execOp, scase, Act.eval])) hc (by simpa using hr)) ?_
  rw [Frame.finish_at]
  walk_nrm
  refine LoneTo.goes (n := 20) ?_
  s_op
  s_op
  s_c stepG_region_end
  s_c stepG_block
  s_cond false
  s_c stepG_seq
  s_reg
  s_op
  s_c stepG_region_end
  s_c stepG_ret'
  s_stop
  exact LoneTo.done ⟨.returned (.bool false), _, rfl, ⟨rfl, rfl⟩, rfl, rfl, rfl, rfl, _, Try.func22, by simp [results, Try.f22, Frame.at]⟩

set_option maxRecDepth 100000 in
theorem pollS_ok (x : ByteArray) (w : World) (g q n : Nat) (L : List ByteArray) (hA : BxS w g q n (x :: L)) :
    Calls Try.prog 25 #[.pointer (some ⟨g, 0, none⟩)] w fun e w' => e = .returned (.tuple #[VS x, .bool true]) ∧ BxS w' g q n L ∧ Keeps [q] w w' := by
  have c1 := hA.chan
  have hle := hA.le
  obtain ⟨s, r, hc⟩ := hA.ch
  refine calls_of_loneTo fun cs => ?_
  have e : Frame.enter Try.prog 25 #[.pointer (some ⟨g, 0, none⟩)] .normal = (base 25).at ⟨#[.pointer (some ⟨g, 0, none⟩), undef, undef, undef, undef, undef, undef, undef, undef, undef, undef, undef, undef, undef, undef, undef], []⟩ [.code (Try.f25.body.getD .skip)] := by
    simp [Frame.enter, Frame.at, Try.func25, base, Try.f25]
  rw [e]
  refine LoneTo.goes (n := 30) ?_
  simp only [Try.f25, Option.getD_some]
  s_c stepG_seq
  s_reg
  s_op
  s_op
  s_c stepG_region_end
  s_c stepG_seq
  s_reg
  s_op
  s_op
  s_op
  s_op
  s_c stepG_region_end
  s_c stepG_seq
  s_reg
  s_stop
  refine LoneTo.step (step_lone_select_recv_buf (c := q) (z := .string ⟨#[]⟩) (cap := n) (buf := ((x :: L).map VS).toArray) (closed := false) (s := s) (r := r) (tm := false) (stepG_comm (cases := #[rcase q (.string ⟨#[]⟩)]) (blocking := false) (shape := .select) (w' := w) rfl rfl (by decide) (by simp [go_sem, execOp, rcase, Act.eval])) hc (by simp)) ?_
  have hb : (((x :: L).map VS).toArray.getD 0 undef) = VS x := rfl
  rw [hb]
  rw [Frame.finish_at]
  walk_nrm
  refine LoneTo.goes (n := 20) ?_
  s_op
  s_op
  s_c stepG_region_end
  s_c stepG_block
  s_cond true
  s_c stepG_seq
  s_reg
  s_op
  s_op
  s_c stepG_region_end
  s_c stepG_seq
  s_reg
  s_op
  s_op
  s_op
  s_c stepG_region_end
  s_c stepG_ret'
  s_stop
  refine LoneTo.done ⟨.returned (.tuple #[VS x, .bool true]), _, rfl, ⟨rfl, ?_, ?_⟩, rfl, rfl, rfl, rfl, _, Try.func25, by simp [results, Try.f25, Frame.at]⟩
  · exact hA.turn _ _ _ (by simp [List.take_of_length_le]) (by simp at hle; omega)
  · exact keeps_chan _ _ _ _ _ _ _ _

set_option maxRecDepth 100000 in
theorem pollS_no (w : World) (g q n : Nat) (hA : BxS w g q n []) :
    Calls Try.prog 25 #[.pointer (some ⟨g, 0, none⟩)] w fun e w' => e = .returned (.tuple #[.string ⟨#[]⟩, .bool false]) ∧ w = w' := by
  have c1 := hA.chan
  obtain ⟨s, r, hc⟩ := hA.ch
  refine calls_of_loneTo fun cs => ?_
  have e : Frame.enter Try.prog 25 #[.pointer (some ⟨g, 0, none⟩)] .normal = (base 25).at ⟨#[.pointer (some ⟨g, 0, none⟩), undef, undef, undef, undef, undef, undef, undef, undef, undef, undef, undef, undef, undef, undef, undef], []⟩ [.code (Try.f25.body.getD .skip)] := by
    simp [Frame.enter, Frame.at, Try.func25, base, Try.f25]
  rw [e]
  refine LoneTo.goes (n := 30) ?_
  simp only [Try.f25, Option.getD_some]
  s_c stepG_seq
  s_reg
  s_op
  s_op
  s_c stepG_region_end
  s_c stepG_seq
  s_reg
  s_op
  s_op
  s_op
  s_op
  s_c stepG_region_end
  s_c stepG_seq
  s_reg
  s_stop
  refine LoneTo.step (step_lone_select_default (c := q) (z := .string ⟨#[]⟩) (cap := n) (s := s) (r := r) (tm := false) (stepG_comm (cases := #[rcase q (.string ⟨#[]⟩)]) (blocking := false) (shape := .select) (w' := w) rfl rfl (by decide) (by simp [go_sem, execOp, rcase, Act.eval])) hc) ?_
  rw [Frame.finish_at]
  walk_nrm
  refine LoneTo.goes (n := 20) ?_
  s_op
  s_op
  s_c stepG_region_end
  s_c stepG_block
  s_cond false
  s_c stepG_seq
  s_reg
  s_op
  s_c stepG_region_end
  s_c stepG_seq
  s_reg
  s_op
  s_op
  s_op
  s_c stepG_region_end
  s_c stepG_ret'
  s_stop
  exact LoneTo.done ⟨.returned (.tuple #[.string ⟨#[]⟩, .bool false]), _, rfl, ⟨rfl, rfl⟩, rfl, rfl, rfl, rfl, _, Try.func25, by simp [results, Try.f25, Frame.at]⟩

end Go.Proofs.Ytdgjfpdfjnkmaaa
