package mailbox_test

import (
	"math"
	"slices"
	"testing"

	"tronage/api"
	"tronage/mailbox"
)

// holds fails the test if a box does not tell, again and again, that it has that room, and that just these things wait in it, in order.
func holds[T comparable](t *testing.T, b *mailbox.Box[T], room int, want ...T) {
	t.Helper()
	for range 2 {
		if b.Room() != room || b.Len() != len(want) {
			t.Errorf("Room %d, Len %d, want %d, %d", b.Room(), b.Len(), room, len(want))
		}
		if l := b.All(); !slices.Equal(l, want) {
			t.Errorf("All %v, want %v", l, want)
		}
	}
}

// drains fails the test if not just these things come out, in order, and nothing behind them.
func drains[T comparable](t *testing.T, b *mailbox.Box[T], want ...T) {
	t.Helper()
	for i, x := range want {
		if y, ok := b.Poll(); y != x || !ok || b.Len() != len(want)-1-i {
			t.Errorf("Poll %d = %v, %t, Len %d, want %v", i, y, ok, b.Len(), x)
		}
	}
	var none T
	for range 3 {
		if y, ok := b.Poll(); y != none || ok || b.Len() != 0 {
			t.Errorf("Poll = %v, %t, Len %d where nothing waits", y, ok, b.Len())
		}
	}
}

// offers fails the test if a box has no room for one of these things.
func offers[T any](t *testing.T, b *mailbox.Box[T], l ...T) {
	t.Helper()
	for _, x := range l {
		if !b.Offer(x) {
			t.Errorf("no room for %v, Len %d of %d", x, b.Len(), b.Room())
		}
	}
}

// boxed is a box of that room, in which these things wait, but not from its beginning on: some went ahead of them.
func boxed[T any](t *testing.T, room, ahead int, l ...T) *mailbox.Box[T] {
	t.Helper()
	b := mailbox.New[T](room)
	for range ahead {
		var none T
		offers(t, b, none)
		b.Poll()
	}
	offers(t, b, l...)
	return b
}

// run are n numbers, from the first one on.
func run(first, n int) []int {
	var l []int
	for i := range n {
		l = append(l, first+i)
	}
	return l
}

// P4.1
func TestExamples(t *testing.T) {
	b := mailbox.New[string](2)
	for _, x := range []struct {
		thing string
		room  bool
	}{{"a", true}, {"b", true}, {"c", false}} {
		if ok := b.Offer(x.thing); ok != x.room {
			t.Errorf("Offer(%s) = %t", x.thing, ok)
		}
	}
	if x, ok := b.Poll(); x != "a" || !ok {
		t.Error(x, ok)
	}
	if !b.Offer("c") {
		t.Error("no room for c")
	}
	holds(t, b, 2, "b", "c")
	drains(t, b, "b", "c")
}

// P4.1: a room is held, and just so many things wait; what is refused changes nothing.
func TestNewHoldsItsRoom(t *testing.T) {
	for _, x := range []struct{ asked, room int }{
		{math.MinInt, 1}, {-api.MaxRoom, 1}, {-1, 1}, {0, 1}, {1, 1}, {2, 2}, {3, 3}, {63, 63},
		{api.MaxRoom, 64}, {65, 64}, {1000, 64}, {api.MaxCount, 64}, {1 << 62, 64}, {math.MaxInt, 64},
	} {
		b := mailbox.New[int](x.asked)
		for i := range x.room {
			holds(t, b, x.room, run(7, i)...)
			offers(t, b, 7+i)
		}
		for i := range 3 {
			if b.Offer(100 + i) {
				t.Errorf("New(%d): there is room for %d more than %d", x.asked, i+1, x.room)
			}
		}
		holds(t, b, x.room, run(7, x.room)...)
		drains(t, b, run(7, x.room)...)
		holds(t, b, x.room)
		offers(t, b, 5)
		holds(t, b, x.room, 5)
	}
}

// P4.1: where nothing waits nothing comes out, and that takes no room.
func TestNothingWaits(t *testing.T) {
	for _, room := range []int{1, 2, 5, api.MaxRoom} {
		b := mailbox.New[string](room)
		for range 2 {
			holds(t, b, room)
			drains(t, b)
			for range room {
				offers(t, b, "x")
			}
			if b.Offer("y") {
				t.Errorf("room %d: one too many", room)
			}
			for range room {
				if x, ok := b.Poll(); x != "x" || !ok {
					t.Errorf("room %d: %q, %t", room, x, ok)
				}
			}
		}
		drains(t, b)
		holds(t, b, room)
	}
}

// P4.1, P4.3: in a full box there is room for one just behind one that went.
func TestOneComesBehindOneThatWent(t *testing.T) {
	for _, room := range []int{1, 2, 3, 7, 63, api.MaxRoom} {
		b := mailbox.New[int](room)
		offers(t, b, run(0, room)...)
		for i := range 3*room + 2 {
			if b.Offer(-1) {
				t.Errorf("room %d: one too many", room)
			}
			if x, ok := b.Poll(); x != i || !ok {
				t.Errorf("room %d: %d, %t comes out, want %d", room, x, ok, i)
			}
			offers(t, b, room+i)
			holds(t, b, room, run(i+1, room)...)
		}
	}
}

// P4.1, P4.3: a thing that is offered again waits once for each time.
func TestTheSameThingAgain(t *testing.T) {
	b := mailbox.New[string](4)
	offers(t, b, "a", "a", "b", "a")
	holds(t, b, 4, "a", "a", "b", "a")
	drains(t, b, "a", "a", "b", "a")
}

// P4.1: a zero thing waits as others do, and is told from none by the bool.
func TestZeroThings(t *testing.T) {
	b := mailbox.New[int](3)
	offers(t, b, 0, 0, 0)
	if b.Offer(0) {
		t.Error("one too many")
	}
	holds(t, b, 3, 0, 0, 0)
	drains(t, b, 0, 0, 0)
	offers(t, b, 0, 4, 0)
	holds(t, b, 3, 0, 4, 0)
	drains(t, b, 0, 4, 0)
	p := mailbox.New[*int](2)
	offers(t, p, nil)
	holds(t, p, 2, nil)
	drains(t, p, nil)
}

// P4.1, P4.2: of every type some thing, and the zero one, wait, move, and come out.
func TestBoxesOfManyTypes(t *testing.T) {
	n := 7
	waits(t, 7)
	waits(t, "seven")
	waits(t, true)
	waits(t, 7.5)
	waits(t, &n)
	waits(t, [3]int{1, 2, 3})
	waits(t, struct{}{})
	waits(t, api.Request{Kind: api.ReqParse, N: 2, Text: "1+2"})
	waits(t, make(chan int))
	waits(t, mailbox.New[int](2))
	waits[error](t, api.ErrArg)
	waits[any](t, "seven")
}

// waits offers a thing, and the zero one.
func waits[T comparable](t *testing.T, x T) {
	t.Helper()
	var zero T
	b := mailbox.New[T](3)
	holds(t, b, 3)
	drains(t, b)
	offers(t, b, x, zero, x)
	if b.Offer(x) {
		t.Errorf("one too many: %v", x)
	}
	holds(t, b, 3, x, zero, x)
	o := mailbox.New[T](2)
	if n := mailbox.Move(b, o); n != 2 {
		t.Errorf("%d of %v moved", n, x)
	}
	holds(t, b, 3, x)
	holds(t, o, 2, x, zero)
	drains(t, o, x, zero)
	drains(t, b, x)
}

// P4.1: things that cannot be held against each other wait, too.
func TestBoxesOfLists(t *testing.T) {
	b := mailbox.New[[]int](3)
	offers(t, b, []int{1, 2}, nil, []int{3})
	l := b.All()
	if len(l) != 3 || !slices.Equal(l[0], []int{1, 2}) || len(l[1]) != 0 || !slices.Equal(l[2], []int{3}) {
		t.Error(l)
	}
	for i, want := range l {
		if x, ok := b.Poll(); !ok || !slices.Equal(x, want) {
			t.Error(i, x, ok)
		}
	}
	f := mailbox.New[func() int](1)
	offers(t, f, func() int { return 9 })
	if g, ok := f.Poll(); !ok || g() != 9 {
		t.Error("a function is lost")
	}
	if g, ok := f.Poll(); ok || g != nil {
		t.Error("a function comes out twice")
	}
}

// P4.1: All tells all that waits, and changes nothing, at every length, and wherever in the box that lies.
func TestAllGoesOnWaiting(t *testing.T) {
	for _, room := range []int{1, 2, 3, 5, api.MaxRoom} {
		for n := range room + 1 {
			for ahead := range min(room, 6) {
				b := boxed(t, room, ahead, run(1, n)...)
				holds(t, b, room, run(1, n)...)
				if n < room {
					offers(t, b, n+1)
					holds(t, b, room, run(1, n+1)...)
					drains(t, b, run(1, n+1)...)
					continue
				}
				if b.Offer(n + 1) {
					t.Errorf("room %d: one too many behind All", room)
				}
				drains(t, b, run(1, n)...)
			}
		}
	}
}

// P4.1, and the language's rule 7: each list is new; who changes one changes no box, and no other list.
func TestAllIsNew(t *testing.T) {
	b := mailbox.New[int](4)
	offers(t, b, 1, 2, 3)
	l, other := b.All(), b.All()
	l[0] = 9
	_ = append(l[:1], 8)
	if !slices.Equal(other, []int{1, 2, 3}) {
		t.Error(other)
	}
	holds(t, b, 4, 1, 2, 3)
	b.Poll()
	offers(t, b, 4)
	if !slices.Equal(other, []int{1, 2, 3}) {
		t.Error(other)
	}
	drains(t, b, 2, 3, 4)
}

// P4.1, and the document's rule R6: what waits in one box is no other one's.
func TestBoxesAreApart(t *testing.T) {
	a, b := mailbox.New[int](2), mailbox.New[int](2)
	offers(t, a, 1, 2)
	holds(t, b, 2)
	offers(t, b, 3)
	a.Poll()
	holds(t, a, 2, 2)
	holds(t, b, 2, 3)
}

// P4.2
func TestMove(t *testing.T) {
	for _, x := range []struct {
		fromRoom, from, toRoom, to int
		moved                      int
	}{
		{1, 0, 1, 0, 0},
		{5, 0, 5, 3, 0},
		{5, 0, 5, 5, 0},
		{5, 5, 5, 5, 0},
		{1, 1, 1, 1, 0},
		{1, 1, 1, 0, 1},
		{5, 3, 5, 0, 3},
		{5, 3, 5, 1, 3},
		{5, 3, 5, 2, 3},
		{5, 3, 5, 3, 2},
		{5, 3, 5, 4, 1},
		{5, 5, 5, 0, 5},
		{5, 1, 5, 4, 1},
		{2, 2, 9, 3, 2},
		{9, 8, 2, 0, 2},
		{9, 8, 1, 0, 1},
		{api.MaxRoom, api.MaxRoom, 1, 0, 1},
		{api.MaxRoom, api.MaxRoom, api.MaxRoom, 0, api.MaxRoom},
		{api.MaxRoom, api.MaxRoom, api.MaxRoom, 1, api.MaxRoom - 1},
		{api.MaxRoom, api.MaxRoom, api.MaxRoom, api.MaxRoom, 0},
	} {
		for ahead := range 4 {
			from := boxed(t, x.fromRoom, ahead, run(100, x.from)...)
			to := boxed(t, x.toRoom, 3-ahead, run(500, x.to)...)
			if n := mailbox.Move(from, to); n != x.moved {
				t.Errorf("%+v: %d moved", x, n)
			}
			holds(t, from, x.fromRoom, run(100+x.moved, x.from-x.moved)...)
			holds(t, to, x.toRoom, append(run(500, x.to), run(100, x.moved)...)...)
			if n := mailbox.Move(from, to); n != 0 {
				t.Errorf("%+v: %d moved where nothing could", x, n)
			}
			drains(t, to, append(run(500, x.to), run(100, x.moved)...)...)
			drains(t, from, run(100+x.moved, x.from-x.moved)...)
		}
	}
}

// P4.2, P4.3: what found no room goes when there is some, behind what waits.
func TestMoveGoesOn(t *testing.T) {
	from, to := mailbox.New[int](10), mailbox.New[int](3)
	offers(t, from, run(0, 10)...)
	var out []int
	for _, want := range []int{3, 1, 1, 1, 1, 1, 1, 1, 0, 0, 0} {
		if n := mailbox.Move(from, to); n != want {
			t.Errorf("%d moved, want %d", n, want)
		}
		if x, ok := to.Poll(); ok {
			out = append(out, x)
		}
	}
	if !slices.Equal(out, run(0, 10)) {
		t.Error(out)
	}
	holds(t, from, 10)
	holds(t, to, 3)
}

// P4.2: what moved there and back is in its order.
func TestMoveThereAndBack(t *testing.T) {
	a, b := mailbox.New[string](3), mailbox.New[string](2)
	offers(t, a, "x", "y", "z")
	for i, want := range [][]string{{"z", "x", "y"}, {"y", "z", "x"}, {"x", "y", "z"}} {
		if n := mailbox.Move(a, b); n != 2 {
			t.Errorf("round %d: %d moved", i, n)
		}
		if n := mailbox.Move(b, a); n != 2 {
			t.Errorf("round %d: %d moved back", i, n)
		}
		holds(t, a, 3, want...)
		holds(t, b, 2)
	}
}

// The document's rule R1: a box that is none ends no move by a panic; it counts as one without things and room.
func TestMoveWithNoBox(t *testing.T) {
	b := mailbox.New[int](3)
	offers(t, b, 1, 2)
	if mailbox.Move(b, nil) != 0 || mailbox.Move(nil, b) != 0 || mailbox.Move[int](nil, nil) != 0 {
		t.Error("something moves from, or to, no box")
	}
	holds(t, b, 3, 1, 2)
}

// The document's rule R1: a box that no New made ends no call by a panic, or keeps anyone waiting.
func TestBoxThatIsNotMade(t *testing.T) {
	var b mailbox.Box[int]
	if b.Offer(1) {
		t.Error("there is room in a box that is not made")
	}
	holds(t, &b, 0)
	drains(t, &b)
	o := mailbox.New[int](2)
	offers(t, o, 5)
	if mailbox.Move(&b, o) != 0 || mailbox.Move(o, &b) != 0 {
		t.Error("something moves from, or to, a box that is not made")
	}
	holds(t, o, 2, 5)
}

// The document's rule R1, of P4.2: a move of a box to itself, of which nothing is promised, ends all the same.
func TestMoveToItselfEnds(t *testing.T) {
	for n := range 4 {
		b := boxed(t, 3, 1, run(1, n)...)
		mailbox.Move(b, b)
	}
}

// model is what the chapter tells of a box.
type model struct {
	room  int
	waits []int
}

// offer is what an offer answers.
func (m *model) offer(x int) bool {
	if len(m.waits) >= m.room {
		return false
	}
	m.waits = append(m.waits, x)
	return true
}

// poll is what a poll answers.
func (m *model) poll() (int, bool) {
	if len(m.waits) == 0 {
		return 0, false
	}
	x := m.waits[0]
	m.waits = slices.Clone(m.waits[1:])
	return x, true
}

// move is what a move answers.
func (m *model) move(to *model) int {
	n := 0
	for len(m.waits) > 0 && len(to.waits) < to.room {
		x, _ := m.poll()
		to.offer(x)
		n++
	}
	return n
}

// numbers are told from a seed, alike in every run.
type numbers struct{ seed uint64 }

// below is the next number, from 0 on.
func (x *numbers) below(n int) int {
	x.seed = x.seed*6364136223846793005 + 1442695040888963407
	return int(x.seed>>33) % n
}

// walk is some boxes, and their models, on which ops are done; in and out are how many things came in, and went.
type walk struct {
	next    *numbers
	boxes   [3]*mailbox.Box[int]
	models  [3]*model
	in, out int
}

// newWalk is one of boxes of some rooms, in which nothing waits.
func newWalk(seed uint64) *walk {
	w := &walk{next: &numbers{seed}}
	for k := range w.boxes {
		asked := w.next.below(12) - 2
		w.boxes[k], w.models[k] = mailbox.New[int](asked), &model{room: max(asked, 1)}
	}
	return w
}

// step does one op of one box, and maybe another one; it fails the test where the models answer otherwise.
func (w *walk) step(t *testing.T) {
	t.Helper()
	k := w.next.below(3)
	o := (k + 1 + w.next.below(2)) % 3
	b, m := w.boxes[k], w.models[k]
	switch w.next.below(6) {
	case 0, 1, 2:
		w.in++
		if got, want := b.Offer(w.in), m.offer(w.in); got != want {
			t.Fatalf("Offer = %t, %d of %d wait", got, len(m.waits), m.room)
		}
	case 3, 4:
		x, ok := b.Poll()
		y, is := m.poll()
		if x != y || ok != is {
			t.Fatalf("Poll = %d, %t, want %d, %t", x, ok, y, is)
		}
		if ok {
			w.out++
		}
	default:
		if got, want := mailbox.Move(b, w.boxes[o]), m.move(w.models[o]); got != want {
			t.Fatalf("Move = %d, want %d", got, want)
		}
	}
}

// P4.1, P4.2, P4.3: long walks of three boxes agree with the chapter's model.
func TestLongWalks(t *testing.T) {
	out := 0
	for seed := range uint64(200) {
		w := newWalk(seed)
		for range 300 {
			w.step(t)
			for k, b := range w.boxes {
				m := w.models[k]
				if b.Room() != m.room || b.Len() != len(m.waits) {
					t.Fatalf("Room %d, Len %d, want %d, %d", b.Room(), b.Len(), m.room, len(m.waits))
				}
				// Not at each step: what All does to a box must not mend what another call did.
				if w.next.below(3) == 0 && !slices.Equal(b.All(), m.waits) {
					t.Fatalf("All %v, want %v", b.All(), m.waits)
				}
			}
		}
		for k, b := range w.boxes {
			drains(t, b, w.models[k].waits...)
		}
		out += w.out
	}
	if out < 1000 {
		t.Errorf("only %d things came out in all walks", out)
	}
}
