/-
  The words of a mailbox's memory: a channel that holds a row of things ('Ch'), a box ('Bx').
-/
import Derived.Test.YtdgjfpdfjnkmaaaOwn
import Derived.Conc.LoneCalls
import Derived.Conc.LoneSelect
import Derived.Conc.LoneSelectN
import Derived.WalkLawsBesides
import Derived.BigQuiet
import Derived.Deep.QuietTactic
import Derived.Lib.Hide
import Derived.KernelRfl
namespace Go.Proofs.Ytdgjfpdfjnkmaaa
open Go.RowKit Go.Conc
set_option linter.unusedVariables false

/-- How many have room. -/
def rm (a : Int) : Nat := (min (max a 1) 64).toNat
theorem rm_lo (a : Int) : 1 ≤ rm a := by unfold rm; omega
theorem rm_hi (a : Int) : rm a ≤ 64 := by unfold rm; omega
theorem rm_eq (a : Int) : min (max a 1) 64 = (rm a : Int) := by unfold rm; omega
theorem rm_eq' (a : Int) : max 1 (min a 64) = (rm a : Int) := by unfold rm; omega
theorem rm_in {a : Int} (h : 1 ≤ a) (h' : a ≤ 64) : (rm a : Int) = a := by unfold rm; omega

/-- Channel q is open, has room for n things, and holds L, in order. -/
def Ch (w : World) (q n : Nat) (L : List Value) : Prop := ∃ s r, w.heap[q]? = some (.chan n L.toArray false s r false)

section
variable {w w' a : World} {q n g : Nat} {L : List Value} {S : List Nat}
theorem Ch.lt (h : Ch w q n L) : q < w.heap.size := by
  obtain ⟨s, r, h⟩ := h
  exact (Array.getElem?_eq_some_iff.1 h).1
theorem Ch.keeps (h : Ch w q n L) (hk : Keeps S w w') (hq : q ∉ S) : Ch w' q n L := by
  have hl := h.lt
  obtain ⟨s, r, h⟩ := h
  exact ⟨s, r, (hk.block q hl hq).trans h⟩
theorem Ch.ne {t : TypeId} {cs : Array Value} (h : Ch w q n L) (ha : At w g t cs) : g ≠ q := by
  rintro rfl
  obtain ⟨s, r, h⟩ := h
  unfold At at ha
  rw [h] at ha
  simp at ha
theorem keeps_chan (w : World) (q n : Nat) (buf : Array Value) (cl : Bool) (s r : Nat) (tm : Bool) : Keeps [q] w (w.setChan q n buf cl s r tm) :=
  ⟨rfl, rfl, rfl, by simp [World.setChan], fun k hk hn => by simp only [World.setChan]; rw [Array.getElem?_setIfInBounds_ne (by simpa using fun e => hn (by simp [e]))]⟩
theorem below_keepsNil {B : Nat} (h : Below B a w) : Keeps [] w w → Below B a w := fun _ => h
/-- A row of one's own lies in no channel. -/
theorem own_notchan {B e size m : Nat} {v : Value} {xs : List Value} (h : w.ownsRow B e size v m xs) (hc : Ch w q n L) : v.ownBlock ≠ some q := by
  intro he
  rcases h.2 with ⟨rfl, _⟩ | ⟨g', cap, cur, rfl, _, hgg, _⟩
  · simp [Value.ownBlock] at he
  · simp [Value.ownBlock] at he
    subst he
    obtain ⟨s, r, hc⟩ := hc
    rw [hgg] at hc
    simp at hc
end

section
variable {X : Type} {V : X → Value} {tb : TypeId} {w w' a : World} {g q n : Nat} {L : List X} {S : List Nat}

/-- Block g is a box: its things lie in channel q, and there is room for n. -/
structure Bx (V : X → Value) (tb : TypeId) (w : World) (g q n : Nat) (L : List X) : Prop where
  at_ : At w g tb #[.int .i64 (n : Int), .chan (some q)]
  ch : Ch w q n (L.map V)
  le : L.length ≤ n
  lo : 1 ≤ n
  hi : n ≤ 64

theorem Bx.keeps (h : Bx V tb w g q n L) (hk : Keeps S w w') (hg : g ∉ S) (hq : q ∉ S) : Bx V tb w' g q n L := ⟨h.at_.keeps hk hg, h.ch.keeps hk hq, h.le, h.lo, h.hi⟩
theorem Bx.drewN (h : Bx V tb w g q n L) (k : Nat) : Bx V tb (w.drewN k) g q n L := h.keeps (S := []) ((Keeps.refl _ _).drewN k) (by simp) (by simp)
theorem Bx.alloc (h : Bx V tb w g q n L) (o : Obj) : Bx V tb (w.alloc o) g q n L := h.keeps (S := []) ((Keeps.refl _ _).alloc o) (by simp) (by simp)
theorem Bx.ne (h : Bx V tb w g q n L) : g ≠ q := h.ch.ne h.at_
theorem Bx.len (h : Bx V tb w g q n L) : L.length ≤ 64 := Nat.le_trans h.le h.hi
theorem Bx.room (h : Bx V tb w g q n L) : w.cell? ⟨g, 0, none⟩ = some (.int .i64 (n : Int)) := by rw [h.at_.cell]; rfl
theorem Bx.chan (h : Bx V tb w g q n L) : w.cell? ⟨g, 1, none⟩ = some (.chan (some q)) := by rw [h.at_.cell]; rfl
theorem Bx.below {B : Nat} (h : Bx V tb w g q n L) (hb : Below B w w') (hg : g < B) (hq : q < B) : Bx V tb w' g q n L := by
  refine ⟨h.at_.below hb hg, ?_, h.le, h.lo, h.hi⟩
  obtain ⟨s, r, hc⟩ := h.ch
  exact ⟨s, r, (hb.block q hq).trans hc⟩
/-- Its own channel changes: L' is there. -/
theorem Bx.turn {L' : List X} (h : Bx V tb w g q n L) (s r : Nat) (buf : Array Value) (hb : buf = (L'.map V).toArray) (hl : L'.length ≤ n) : Bx V tb (w.setChan q n buf false s r false) g q n L' := by
  subst hb
  exact ⟨h.at_.keeps (keeps_chan w q n _ _ _ _ _) (by simpa using h.ne), ⟨s, r, heap_setChan w q n _ _ _ _ _ h.ch.lt⟩, hl, h.lo, h.hi⟩
theorem Bx.new (w : World) (a : Int) : Bx V tb ((w.alloc (.chan (rm a) #[] false 0 0 false)).alloc (.cells #[.int .i64 (rm a : Int), .chan (some w.heap.size)] tb)) (w.heap.size + 1) w.heap.size (rm a) [] := by
  refine ⟨?_, ⟨0, 0, ?_⟩, by simp, rm_lo a, rm_hi a⟩
  · have := At.new (w.alloc (.chan (rm a) #[] false 0 0 false)) tb #[.int .i64 (rm a : Int), .chan (some w.heap.size)]
    simpa using this
  · rw [Below.heap_alloc _ _ _ (by simp)]
    exact heap_alloc_new w _
end

theorem ret_bool {a b : Bool} (h : a = b) : Ending.returned (.bool a) = .returned (.bool b) := by rw [h]
theorem ret_int {k : IntKind} {a b : Int} (h : a = b) : Ending.returned (.int k a) = .returned (.int k b) := by rw [h]

end Go.Proofs.Ytdgjfpdfjnkmaaa
