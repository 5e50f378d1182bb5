package arena_test

import (
	"math"
	"runtime"
	"testing"
	"weak"

	"tronage/api"
	"tronage/arena"
	"tronage/meter"
)

// holds fails the test if an arena does not have just these things, at that cost in all.
func holds[T comparable](t *testing.T, a *arena.Arena[T], cells int, things ...T) {
	t.Helper()
	if a.Len() != len(things) || a.Cells() != cells {
		t.Errorf("Len %d, Cells %d, want %d, %d", a.Len(), a.Cells(), len(things), cells)
	}
	for i, want := range things {
		if x, ok := a.At(i); x != want || !ok {
			t.Errorf("At(%d) = %v, %t, want %v", i, x, ok, want)
		}
	}
	var none T
	for _, i := range []int{math.MinInt, -1, len(things), len(things) + 1, math.MaxInt} {
		if x, ok := a.At(i); x != none || ok {
			t.Errorf("At(%d) = %v, %t of %d things", i, x, ok, len(things))
		}
	}
}

// counts fails the test if a meter does not tell what is wanted of it.
func counts(t *testing.T, m *meter.Meter, used, most int) {
	t.Helper()
	if m.Used() != used || m.Most() != most {
		t.Errorf("Used %d, Most %d, want %d, %d", m.Used(), m.Most(), used, most)
	}
}

// put fails the test if a thing does not get the number that is wanted.
func put[T any](t *testing.T, a *arena.Arena[T], x T, cells, number int) {
	t.Helper()
	if n, e := a.Put(x, cells); n != number || e != api.OK {
		t.Errorf("Put(%v, %d) = %d, %d, want %d", x, cells, n, e, number)
	}
}

// letters is an arena of a, b and c, of 2, 3 and 4 cells, and its meter of 10.
func letters(t *testing.T) (*arena.Arena[string], *meter.Meter) {
	t.Helper()
	m := meter.New(10)
	a := arena.New[string](m)
	put(t, a, "a", 2, 0)
	put(t, a, "b", 3, 1)
	put(t, a, "c", 4, 2)
	return a, m
}

// P2.1, P2.2
func TestExamples(t *testing.T) {
	m := meter.New(5)
	a := arena.New[string](m)
	put(t, a, "a", 2, 0)
	if n, e := a.Put("b", 4); n != 0 || e != api.ErrQuota {
		t.Error(n, e)
	}
	put(t, a, "c", 3, 1)
	if x, ok := a.At(1); x != "c" || !ok {
		t.Error(x, ok)
	}
	if n := a.Cut(1); n != 3 {
		t.Error(n)
	}
	if x, ok := a.At(1); x != "" || ok {
		t.Error(x, ok)
	}
	if n := a.Cells(); n != 2 {
		t.Error(n)
	}
}

// P2.1
func TestNewHasNothing(t *testing.T) {
	m := meter.New(10)
	m.Take(4)
	a := arena.New[string](m)
	holds(t, a, 0)
	counts(t, m, 4, 4)
	if a.Set(0, "x") {
		t.Error("set in an arena without things")
	}
	if n := a.Cut(0); n != 0 {
		t.Error(n)
	}
	holds(t, a, 0)
	counts(t, m, 4, 4)
}

// P2.1: ErrArg is told ahead of ErrQuota, with nothing left too.
func TestPutAtItsEdges(t *testing.T) {
	for _, x := range []struct {
		limit, cells int
		e            api.Errno
	}{
		{10, math.MinInt, api.ErrArg},
		{10, -1, api.ErrArg},
		{10, 0, api.ErrArg},
		{10, 1, api.OK},
		{10, 7, api.OK},
		{10, 8, api.ErrQuota},
		{10, 10, api.ErrQuota},
		{10, 11, api.ErrQuota},
		{10, math.MaxInt, api.ErrQuota},
		{3, -1, api.ErrArg},
		{3, 0, api.ErrArg},
		{3, 1, api.ErrQuota},
		{api.MaxCount, api.MaxCount - 3, api.OK},
		{api.MaxCount, api.MaxCount - 2, api.ErrQuota},
		{api.MaxCount, api.MaxCount + 1, api.ErrQuota},
	} {
		m := meter.New(x.limit)
		a := arena.New[string](m)
		put(t, a, "first", 3, 0)
		n, e := a.Put("second", x.cells)
		if e != x.e {
			t.Errorf("limit %d: Put at %d = %d, want %d", x.limit, x.cells, e, x.e)
		}
		if e != api.OK {
			if n != 0 {
				t.Errorf("limit %d: Put at %d is refused with the number %d", x.limit, x.cells, n)
			}
			holds(t, a, 3, "first")
			counts(t, m, 3, 3)
			continue
		}
		if n != 1 {
			t.Errorf("limit %d: Put at %d = %d", x.limit, x.cells, n)
		}
		holds(t, a, 3+x.cells, "first", "second")
		counts(t, m, 3+x.cells, 3+x.cells)
	}
}

// P2.1: a limit of nothing has no room for anything.
func TestPutWithoutAnyCell(t *testing.T) {
	for _, limit := range []int{math.MinInt, -1, 0} {
		m := meter.New(limit)
		a := arena.New[int](m)
		for cells, want := range map[int]api.Errno{-1: api.ErrArg, 0: api.ErrArg, 1: api.ErrQuota} {
			if n, e := a.Put(7, cells); n != 0 || e != want {
				t.Errorf("limit %d: Put at %d = %d, %d, want %d", limit, cells, n, e, want)
			}
		}
		holds(t, a, 0)
		counts(t, m, 0, 0)
	}
}

// P2.1
func TestSet(t *testing.T) {
	a, m := letters(t)
	for i, x := range []string{"A", "B", "C"} {
		if !a.Set(i, x) {
			t.Errorf("Set(%d)", i)
		}
		if y, ok := a.At(i); y != x || !ok {
			t.Errorf("At(%d) = %q", i, y)
		}
	}
	for _, i := range []int{math.MinInt, -1, 3, 4, math.MaxInt} {
		if a.Set(i, "x") {
			t.Errorf("Set(%d)", i)
		}
	}
	holds(t, a, 9, "A", "B", "C")
	counts(t, m, 9, 9)
}

// P2.1: a thing that is set keeps the cells that it had, and those are given back.
func TestSetKeepsTheCells(t *testing.T) {
	a, m := letters(t)
	a.Set(1, "B")
	if n := a.Cut(2); n != 4 {
		t.Error(n)
	}
	if n := a.Cut(1); n != 3 {
		t.Error(n)
	}
	holds(t, a, 2, "a")
	counts(t, m, 2, 9)
}

// P2.1: a thing is given out as a value; changing that changes nothing here.
func TestAtGivesAValue(t *testing.T) {
	a := arena.New[[2]int](meter.New(10))
	x := [2]int{1, 2}
	put(t, a, x, 1, 0)
	x[0] = 9
	y, _ := a.At(0)
	y[1] = 9
	holds(t, a, 1, [2]int{1, 2})
}

// P2.1: of every type the thing that is not there is the zero one.
func TestThingsOfManyTypes(t *testing.T) {
	n := 7
	holdsOne(t, 7)
	holdsOne(t, "seven")
	holdsOne(t, &n)
	holdsOne(t, api.Tok{Term: 1, From: 2, To: 3})
	holdsOne(t, [3]bool{true})
	holdsOne[error](t, api.ErrArg)
	holdsOne[any](t, 7)
}

// holdsOne puts a thing, and one that is zero.
func holdsOne[T comparable](t *testing.T, x T) {
	t.Helper()
	var zero T
	a := arena.New[T](meter.New(10))
	put(t, a, x, 4, 0)
	put(t, a, zero, 1, 1)
	holds(t, a, 5, x, zero)
	if a.Cut(1) != 1 || !a.Set(0, zero) {
		t.Error("cut or set of", x)
	}
	holds(t, a, 4, zero)
}

// P2.2
func TestCutAtItsEdges(t *testing.T) {
	for _, x := range []struct {
		n, back int
		stay    []string
	}{
		{math.MinInt, 9, nil},
		{-1, 9, nil},
		{0, 9, nil},
		{1, 7, []string{"a"}},
		{2, 4, []string{"a", "b"}},
		{3, 0, []string{"a", "b", "c"}},
		{4, 0, []string{"a", "b", "c"}},
		{api.MaxCount, 0, []string{"a", "b", "c"}},
		{math.MaxInt, 0, []string{"a", "b", "c"}},
	} {
		a, m := letters(t)
		if n := a.Cut(x.n); n != x.back {
			t.Errorf("Cut(%d) = %d, want %d", x.n, n, x.back)
		}
		holds(t, a, 9-x.back, x.stay...)
		counts(t, m, 9-x.back, 9)
		if a.Set(len(x.stay), "x") {
			t.Errorf("Cut(%d): what was cut is set", x.n)
		}
		if n := a.Cut(x.n); n != 0 {
			t.Errorf("Cut(%d) again = %d", x.n, n)
		}
		holds(t, a, 9-x.back, x.stay...)
		counts(t, m, 9-x.back, 9)
	}
}

// P2.2, P2.1: behind a cut things are put from there on, for the cells that are left again.
func TestPutBehindACut(t *testing.T) {
	a, m := letters(t)
	if _, e := a.Put("d", 5); e != api.ErrQuota {
		t.Error(e)
	}
	a.Cut(1)
	put(t, a, "d", 5, 1)
	put(t, a, "e", 3, 2)
	holds(t, a, 10, "a", "d", "e")
	counts(t, m, 10, 10)
	if n := a.Cut(1); n != 8 {
		t.Error(n)
	}
	holds(t, a, 2, "a")
	a.Cut(0)
	put(t, a, "f", 10, 0)
	holds(t, a, 10, "f")
	counts(t, m, 10, 10)
}

// fresh puts three things that nobody else holds, and tells of each whether it still is there.
func fresh(a *arena.Arena[*[64]int]) []weak.Pointer[[64]int] {
	var l []weak.Pointer[[64]int]
	for range 3 {
		x := new([64]int)
		l = append(l, weak.Make(x))
		a.Put(x, 1)
	}
	return l
}

// The document's section Ways: what is cut is cleared, so an arena that goes on does not keep it.
func TestCutLetsThingsGo(t *testing.T) {
	a := arena.New[*[64]int](meter.New(10))
	l := fresh(a)
	a.Cut(1)
	runtime.GC()
	if l[0].Value() == nil || l[1].Value() != nil || l[2].Value() != nil {
		t.Error("an arena keeps what was cut, or not what stays")
	}
	holds(t, a, 1, l[0].Value())
}

// P2.1, P2.2: two arenas and another one take from one meter; each counts, and cuts, its own alone.
func TestManyTakeFromOneMeter(t *testing.T) {
	m := meter.New(12)
	a, b := arena.New[string](m), arena.New[int](m)
	put(t, a, "a", 3, 0)
	put(t, b, 1, 2, 0)
	m.Take(4)
	put(t, b, 2, 1, 1)
	counts(t, m, 10, 10)
	if n, e := a.Put("b", 3); n != 0 || e != api.ErrQuota {
		t.Error(n, e)
	}
	if n, e := b.Put(3, 3); n != 0 || e != api.ErrQuota {
		t.Error(n, e)
	}
	put(t, a, "b", 2, 1)
	holds(t, a, 5, "a", "b")
	holds(t, b, 3, 1, 2)
	counts(t, m, 12, 12)
	if n := a.Cut(0); n != 5 {
		t.Error(n)
	}
	holds(t, a, 0)
	holds(t, b, 3, 1, 2)
	counts(t, m, 7, 12)
	m.Give(4)
	put(t, b, 3, 9, 2)
	holds(t, b, 12, 1, 2, 3)
	if n := b.Cut(-1); n != 12 {
		t.Error(n)
	}
	counts(t, m, 0, 12)
}

// P2.2: what the others cost is told and forgotten, though somebody else gave it back ahead; a meter takes nothing back twice.
func TestCutOfWhatOthersGaveBack(t *testing.T) {
	a, m := letters(t)
	m.Reset()
	if n := a.Cut(1); n != 7 {
		t.Error(n)
	}
	holds(t, a, 2, "a")
	counts(t, m, 0, 9)
	put(t, a, "d", 10, 1)
	holds(t, a, 12, "a", "d")
	counts(t, m, 10, 10)
}

// model is what the chapter tells of an arena.
type model struct{ things, cells []int }

// total is what all things of a model cost.
func (x *model) total() int {
	sum := 0
	for _, c := range x.cells {
		sum += c
	}
	return sum
}

// agrees fails the test if an arena is not as its model.
func (x *model) agrees(t *testing.T, a *arena.Arena[int]) {
	t.Helper()
	holds(t, a, x.total(), x.things...)
}

// put is what a put answers, with so many cells left.
func (x *model) put(thing, cells, left int) (int, api.Errno) {
	switch {
	case cells < 1:
		return 0, api.ErrArg
	case cells > left:
		return 0, api.ErrQuota
	}
	x.things, x.cells = append(x.things, thing), append(x.cells, cells)
	return len(x.things) - 1, api.OK
}

// cut is what a cut answers.
func (x *model) cut(n int) int {
	was := x.total()
	for len(x.things) > max(n, 0) {
		x.things, x.cells = x.things[:len(x.things)-1], x.cells[:len(x.cells)-1]
	}
	return was - x.total()
}

// numbers are told from a seed, alike in every run.
type numbers struct{ seed uint64 }

// below is the next number, from 0 on.
func (x *numbers) below(n int) int {
	x.seed = x.seed*6364136223846793005 + 1442695040888963407
	return int(x.seed>>33) % n
}

// do does one op of an arena that is of a meter, and of its model; it fails the test where they do not agree.
func do(t *testing.T, next *numbers, a *arena.Arena[int], m *meter.Meter, want *model) {
	t.Helper()
	switch next.below(4) {
	case 0:
		at := next.below(12) - 2
		if n, back := a.Cut(at), want.cut(at); n != back {
			t.Fatalf("Cut(%d) = %d, want %d", at, n, back)
		}
	case 1:
		at, thing := next.below(10)-2, next.below(1000)
		there := at >= 0 && at < len(want.things)
		if there {
			want.things[at] = thing
		}
		if a.Set(at, thing) != there {
			t.Fatalf("Set(%d), %d things", at, len(want.things))
		}
	default:
		thing, cells := next.below(1000), next.below(9)-1
		number, err := want.put(thing, cells, m.Left())
		if n, e := a.Put(thing, cells); n != number || e != err {
			t.Fatalf("Put at %d = %d, %d, want %d, %d", cells, n, e, number, err)
		}
	}
}

// P2.1, P2.2, P2.3: long walks of two arenas and another one agree with the chapter's model; no arena's cells ever are above what is used.
func TestLongWalks(t *testing.T) {
	for seed := range uint64(200) {
		next := &numbers{seed}
		m := meter.New(20 + next.below(20))
		arenas := [2]*arena.Arena[int]{arena.New[int](m), arena.New[int](m)}
		var models [2]model
		other := 0
		for range 200 {
			switch k := next.below(5); {
			case k < 4:
				do(t, next, arenas[k%2], m, &models[k%2])
			case other > 0:
				m.Give(other)
				other = 0
			default:
				if n := next.below(6); m.Take(n) == api.OK {
					other = n
				}
			}
			used := other
			for i, a := range arenas {
				models[i].agrees(t, a)
				used += a.Cells()
				if a.Cells() > m.Used() {
					t.Fatalf("seed %d: cells %d, used %d", seed, a.Cells(), m.Used())
				}
			}
			if m.Used() != used {
				t.Fatalf("seed %d: used %d, want %d", seed, m.Used(), used)
			}
		}
	}
}
