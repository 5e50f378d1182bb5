/-
  The walks over Take and Give, of package meter and of the document's meter.
-/
import Derived.Test.YtnmmffpcbneccaaMeterA
import Derived.BigRegion
namespace Go.Proofs.Ytnmmffpcbneccaa
open Go.RowKit

/-- What Take answers, of a meter with so much left. -/
def takeCode (l u n : Int) : Int := if n < 0 then 1 else if l - u < n then 5 else 0
def takeUsed (l u n : Int) : Int := if n < 0 then u else if l - u < n then u else u + n
def takeMost (l u m n : Int) : Int := if n < 0 then m else if l - u < n then m else if m < u + n then u + n else m
def giveCode (u n : Int) : Int := if n < 0 then 1 else if u < n then 1 else 0
def giveUsed (u n : Int) : Int := if n < 0 then u else if u < n then u else u - n

theorem take_neg {l u m n : Int} (h : n < 0) : takeCode l u n = 1 ∧ takeUsed l u n = u ∧ takeMost l u m n = m := by
  unfold takeCode takeUsed takeMost; simp [h]
theorem take_big {l u m n : Int} (h0 : 0 ≤ n) (h : l - u < n) : takeCode l u n = 5 ∧ takeUsed l u n = u ∧ takeMost l u m n = m := by
  have : ¬ n < 0 := by omega
  unfold takeCode takeUsed takeMost; simp [h, this]
theorem take_ok {l u n : Int} (h0 : 0 ≤ n) (h : n ≤ l - u) : takeCode l u n = 0 ∧ takeUsed l u n = u + n := by
  have h1 : ¬ n < 0 := by omega
  have h2 : ¬ l - u < n := by omega
  unfold takeCode takeUsed; simp [h1, h2]
theorem take_more {l u m n : Int} (h0 : 0 ≤ n) (h : n ≤ l - u) (hm : m < u + n) : takeMost l u m n = u + n := by
  have h1 : ¬ n < 0 := by omega
  have h2 : ¬ l - u < n := by omega
  unfold takeMost; simp [h1, h2, hm]
theorem take_less {l u m n : Int} (h0 : 0 ≤ n) (h : n ≤ l - u) (hm : u + n ≤ m) : takeMost l u m n = m := by
  have h1 : ¬ n < 0 := by omega
  have h2 : ¬ l - u < n := by omega
  have h3 : ¬ m < u + n := by omega
  unfold takeMost; simp [h1, h2, h3]

theorem At.eqs {w : World} {g : Nat} {t : TypeId} {cs cs' : Array Value} (h : At w g t cs) (e : cs = cs') : At w g t cs' := e ▸ h

set_option maxHeartbeats 400000 in
theorem take_any (b : Nat) (l u m n : Int) (w : World) (hm : At w b 60 #[.int .i64 l, .int .i64 u, .int .i64 m]) (hb : 0 ≤ u ∧ u ≤ l ∧ l ≤ 1099511627776) (hn : -9223372036854775808 ≤ n ∧ n ≤ 9223372036854775807) :
    Calls Try.prog 33 #[.pointer (some ⟨b, 0, none⟩), .int .i64 n] w fun e w' => e = .returned (.int .i64 (takeCode l u n)) ∧
      Turns w w' b 60 #[.int .i64 l, .int .i64 (takeUsed l u n), .int .i64 (takeMost l u m n)] := by
  have H := Lib.hid hm
  have c1 := hm.cell 1
  have z1 := hm.frozen 1
  have c2 := hm.cell 2
  have z2 := hm.frozen 2
  clear hm
  simp at c1 c2
  go_enter Try.func33, Try.ntmps33
  by_cases h1 : n < 0
  · go_wp2
    go_ret
    obtain ⟨e1, e2, e3⟩ := take_neg (l := l) (u := u) (m := m) h1
    rw [e1, e2, e3]
    exact ⟨rfl, Turns.same H.out 0⟩
  · by_cases h2 : l - u < n
    · go_wp2_with (go_at_call 16; refine (left_any b l u m _ H.out hb).mono ?_; rintro e w' ⟨rfl, nq, rfl⟩)
      go_ret
      obtain ⟨e1, e2, e3⟩ := take_big (l := l) (u := u) (m := m) (by omega) h2
      rw [e1, e2, e3]
      exact ⟨rfl, Turns.same H.out _⟩
    · by_cases h3 : m < u + n
      · go_wp2_with (go_at_call 16; refine (left_any b l u m _ H.out hb).mono ?_; rintro e w' ⟨rfl, nq, rfl⟩)
        go_region
        go_wp2
        go_ret
        obtain ⟨e1, e2⟩ := take_ok (l := l) (u := u) (n := n) (by omega) (by omega)
        rw [e1, e2, take_more (by omega) (by omega) h3]
        refine ⟨rfl, ?_, ?_⟩
        · exact (((H.out.drewN _).set 1 _).set 2 _).eqs (by simp)
        · repeat (first | exact grown_refl _ _ | refine grown_set ?_ _ _ | refine grown_drewN ?_ _ | refine grown_drew ?_)
      · go_wp2_with (go_at_call 16; refine (left_any b l u m _ H.out hb).mono ?_; rintro e w' ⟨rfl, nq, rfl⟩)
        go_region
        go_wp2
        go_ret
        obtain ⟨e1, e2⟩ := take_ok (l := l) (u := u) (n := n) (by omega) (by omega)
        rw [e1, e2, take_less (by omega) (by omega) (by omega)]
        refine ⟨rfl, ?_, ?_⟩
        · exact (((H.out.drewN _).set 1 _).set 2 _).eqs (by simp)
        · repeat (first | exact grown_refl _ _ | refine grown_set ?_ _ _ | refine grown_drewN ?_ _ | refine grown_drew ?_)

set_option maxHeartbeats 400000 in
theorem give_any (b : Nat) (l u m n : Int) (w : World) (hm : At w b 60 #[.int .i64 l, .int .i64 u, .int .i64 m]) (hb : 0 ≤ u ∧ u ≤ l ∧ l ≤ 1099511627776) (hn : -9223372036854775808 ≤ n ∧ n ≤ 9223372036854775807) :
    Calls Try.prog 35 #[.pointer (some ⟨b, 0, none⟩), .int .i64 n] w fun e w' => e = .returned (.int .i64 (giveCode u n)) ∧
      Turns w w' b 60 #[.int .i64 l, .int .i64 (giveUsed u n), .int .i64 m] := by
  have H := Lib.hid hm
  have c1 := hm.cell 1
  have z1 := hm.frozen 1
  clear hm
  simp at c1
  go_enter Try.func35, Try.ntmps35
  by_cases h1 : n < 0
  · go_wp2
    go_ret
    have e1 : giveCode u n = 1 := by unfold giveCode; rw [if_pos h1]
    have e2 : giveUsed u n = u := by unfold giveUsed; rw [if_pos h1]
    rw [e1, e2]
    exact ⟨rfl, Turns.same H.out 0⟩
  · by_cases h2 : u < n
    · go_wp2
      go_ret
      have e1 : giveCode u n = 1 := by unfold giveCode; rw [if_neg (by omega : ¬ n < 0), if_pos h2]
      have e2 : giveUsed u n = u := by unfold giveUsed; rw [if_neg (by omega : ¬ n < 0), if_pos h2]
      rw [e1, e2]
      exact ⟨rfl, Turns.same H.out 0⟩
    · go_wp2
      go_ret
      have e1 : giveCode u n = 0 := by unfold giveCode; rw [if_neg (by omega : ¬ n < 0), if_neg (by omega : ¬ u < n)]
      have e2 : giveUsed u n = u - n := by unfold giveUsed; rw [if_neg (by omega : ¬ n < 0), if_neg (by omega : ¬ u < n)]
      rw [e1, e2]
      exact ⟨rfl, (H.out.set 1 _).eqs (by simp), grown_set (grown_refl _ _) _ _⟩

set_option maxHeartbeats 400000 in
theorem rtake_any (b : Nat) (l u m n : Int) (w : World) (hm : At w b 32 #[.int .i64 l, .int .i64 u, .int .i64 m]) (hb : 0 ≤ u ∧ u ≤ l ∧ l ≤ 1099511627776) (hn : -9223372036854775808 ≤ n ∧ n ≤ 9223372036854775807) :
    Calls Try.prog 37 #[.pointer (some ⟨b, 0, none⟩), .int .i64 n] w fun e w' => e = .returned (.int .i64 (takeCode l u n)) ∧
      Turns w w' b 32 #[.int .i64 l, .int .i64 (takeUsed l u n), .int .i64 (takeMost l u m n)] := by
  have H := Lib.hid hm
  have c0 := hm.cell 0
  have c1 := hm.cell 1
  have z1 := hm.frozen 1
  have c2 := hm.cell 2
  have z2 := hm.frozen 2
  clear hm
  simp at c0 c1 c2
  go_enter Try.func37, Try.ntmps37
  by_cases h1 : n < 0
  · go_wp2
    go_ret
    obtain ⟨e1, e2, e3⟩ := take_neg (l := l) (u := u) (m := m) h1
    rw [e1, e2, e3]
    exact ⟨rfl, Turns.same H.out 0⟩
  · by_cases h2 : l - u < n
    · go_wp2
      go_quiet (fail)
      go_wp2
      go_ret
      obtain ⟨e1, e2, e3⟩ := take_big (l := l) (u := u) (m := m) (by omega) h2
      rw [e1, e2, e3]
      exact ⟨rfl, Turns.same H.out _⟩
    · by_cases h3 : m < u + n
      all_goals
        go_wp2
        go_quiet (fail)
        go_wp2
        go_quiet (fail)
        go_wp2
        go_ret
        obtain ⟨e1, e2⟩ := take_ok (l := l) (u := u) (n := n) (by omega) (by omega)
      · rw [e1, e2, take_more (by omega) (by omega) h3]
        refine ⟨rfl, ?_, ?_⟩
        · exact (((H.out.drewN _).set 1 _).set 2 _).eqs (by simp)
        · repeat (first | exact grown_refl _ _ | refine grown_set ?_ _ _ | refine grown_drewN ?_ _ | refine grown_drew ?_)
      · rw [e1, e2, take_less (by omega) (by omega) (by omega)]
        refine ⟨rfl, ?_, ?_⟩
        · exact ((H.out.drewN _).set 1 _).eqs (by simp)
        · repeat (first | exact grown_refl _ _ | refine grown_set ?_ _ _ | refine grown_drewN ?_ _ | refine grown_drew ?_)

set_option maxHeartbeats 400000 in
theorem rgive_any (b : Nat) (l u m n : Int) (w : World) (hm : At w b 32 #[.int .i64 l, .int .i64 u, .int .i64 m]) (hb : 0 ≤ u ∧ u ≤ l ∧ l ≤ 1099511627776) (hn : -9223372036854775808 ≤ n ∧ n ≤ 9223372036854775807) :
    Calls Try.prog 38 #[.pointer (some ⟨b, 0, none⟩), .int .i64 n] w fun e w' => e = .returned (.int .i64 (giveCode u n)) ∧
      Turns w w' b 32 #[.int .i64 l, .int .i64 (giveUsed u n), .int .i64 m] := by
  have H := Lib.hid hm
  have c1 := hm.cell 1
  have z1 := hm.frozen 1
  clear hm
  simp at c1
  go_enter Try.func38, Try.ntmps38
  by_cases h1 : n < 0
  · go_wp2
    go_ret
    have e1 : giveCode u n = 1 := by unfold giveCode; rw [if_pos h1]
    have e2 : giveUsed u n = u := by unfold giveUsed; rw [if_pos h1]
    rw [e1, e2]
    exact ⟨rfl, Turns.same H.out 0⟩
  · by_cases h2 : u < n
    · go_wp2
      go_ret
      have e1 : giveCode u n = 1 := by unfold giveCode; rw [if_neg (by omega : ¬ n < 0), if_pos h2]
      have e2 : giveUsed u n = u := by unfold giveUsed; rw [if_neg (by omega : ¬ n < 0), if_pos h2]
      rw [e1, e2]
      exact ⟨rfl, Turns.same H.out 0⟩
    · go_wp2
      go_ret
      have e1 : giveCode u n = 0 := by unfold giveCode; rw [if_neg (by omega : ¬ n < 0), if_neg (by omega : ¬ u < n)]
      have e2 : giveUsed u n = u - n := by unfold giveUsed; rw [if_neg (by omega : ¬ n < 0), if_neg (by omega : ¬ u < n)]
      rw [e1, e2]
      exact ⟨rfl, (H.out.set 1 _).eqs (by simp), grown_set (grown_refl _ _) _ _⟩

end Go.Proofs.Ytnmmffpcbneccaa
