package bitset_test

import (
	"math"
	"slices"
	"testing"

	"tronage/api"
	"tronage/bitset"
)

// never are numbers that no set has, whatever its width.
var never = []int{math.MinInt, math.MinInt + 1, -1 << 32, -api.MaxBits, -65, -64, -63, -1, api.MaxBits, api.MaxBits + 1, 1023, 1024, 1025, 1 << 32, 1 << 62, math.MaxInt}

// widths are such as lie around all places where a set, or a word of the machine, ends.
var widths = []int{0, 1, 2, 5, 63, 64, 65, 127, 128, 129, 500, 960, 999, api.MaxBits}

// holds fails the test if a set does not tell, by every call, that it has that width, and just these numbers, which are rising.
func holds(t *testing.T, s *bitset.Set, width int, want ...int) {
	t.Helper()
	if s.Width() != width || s.Len() != len(want) || !slices.Equal(s.List(), want) {
		t.Errorf("Width %d, Len %d, List %v, want %d, %d, %v", s.Width(), s.Len(), s.List(), width, len(want), want)
	}
	if l := told(s.Each()); !slices.Equal(l, want) {
		t.Errorf("Each tells %v, want %v", l, want)
	}
	for i := range api.MaxBits {
		if _, has := slices.BinarySearch(want, i); s.Has(i) != has {
			t.Errorf("Has(%d) = %t", i, s.Has(i))
		}
	}
	for _, i := range never {
		if s.Has(i) {
			t.Errorf("Has(%d)", i)
		}
	}
}

// told are all numbers that an iterator tells.
func told(each func(yield func(i int) bool)) []int {
	var l []int
	for i := range each {
		l = append(l, i)
	}
	return l
}

// below are all numbers from 0 on, below n.
func below(n int) []int {
	var l []int
	for i := range n {
		l = append(l, i)
	}
	return l
}

// P3.1, P3.2, P3.3
func TestExamples(t *testing.T) {
	s := bitset.Of(70, 3, 69, 70, 3)
	holds(t, s, 70, 3, 69)
	if s.Add(3) {
		t.Error("3 is added twice")
	}
	if !s.Drop(69) {
		t.Error("69 is not dropped")
	}
	holds(t, s, 70, 3)
	u := bitset.Of(5, 1)
	if u.Union(bitset.Of(9, 1, 7)) {
		t.Error("7 is none of its numbers")
	}
	holds(t, u, 5, 1)
}

// P3.1
func TestNewHoldsItsWidth(t *testing.T) {
	for _, x := range []struct{ n, width int }{
		{math.MinInt, 0}, {-64, 0}, {-1, 0}, {0, 0}, {1, 1}, {63, 63}, {64, 64}, {65, 65},
		{999, 999}, {1000, 1000}, {1001, 1000}, {1024, 1000}, {1025, 1000}, {1 << 62, 1000}, {math.MaxInt, 1000},
	} {
		holds(t, bitset.New(x.n), x.width)
		holds(t, bitset.Of(x.n), x.width)
		s := bitset.Of(x.n, x.width, x.width-1, x.width+1, -1)
		if x.width == 0 {
			holds(t, s, 0)
		} else {
			holds(t, s, x.width, x.width-1)
		}
	}
}

// P3.1
func TestAddAndDropAtTheWidth(t *testing.T) {
	for _, width := range widths {
		s := bitset.New(width)
		for _, i := range append([]int{width, width + 1, width + 64}, never...) {
			if s.Add(i) || s.Drop(i) {
				t.Errorf("width %d: %d is added, or dropped", width, i)
			}
		}
		holds(t, s, width)
		if width == 0 {
			continue
		}
		if !s.Add(width-1) || s.Add(width-1) {
			t.Errorf("width %d: %d is not added once", width, width-1)
		}
		holds(t, s, width, width-1)
		if !s.Drop(width-1) || s.Drop(width-1) {
			t.Errorf("width %d: %d is not dropped once", width, width-1)
		}
		holds(t, s, width)
	}
}

// P3.1: each number is added, and dropped, once, and no other one with it.
func TestEachNumberIsItsOwn(t *testing.T) {
	s, other := bitset.New(api.MaxBits), bitset.New(api.MaxBits)
	for i := range api.MaxBits {
		if s.Has(i) || s.Drop(i) || !s.Add(i) || !s.Has(i) || s.Add(i) || s.Len() != i+1 {
			t.Errorf("%d, Len %d", i, s.Len())
		}
	}
	holds(t, s, api.MaxBits, below(api.MaxBits)...)
	for i := range api.MaxBits {
		if !s.Has(i) || s.Add(i) || !s.Drop(i) || s.Has(i) || s.Drop(i) || s.Len() != api.MaxBits-1-i {
			t.Errorf("%d, Len %d", i, s.Len())
		}
	}
	holds(t, s, api.MaxBits)
	holds(t, other, api.MaxBits)
}

// P3.1
func TestOf(t *testing.T) {
	for _, x := range []struct {
		n       int
		l, want []int
	}{
		{10, nil, nil},
		{10, []int{}, nil},
		{10, []int{7}, []int{7}},
		{10, []int{9, 0, 5}, []int{0, 5, 9}},
		{10, []int{5, 5, 5}, []int{5}},
		{10, []int{3, -1, 10, 3, 11, 2}, []int{2, 3}},
		{10, never, nil},
		{0, []int{0, 1, -1}, nil},
		{-3, []int{0, -1, -2, -3}, nil},
		{200, []int{199, 64, 128, 63, 127, 0, 200}, []int{0, 63, 64, 127, 128, 199}},
		{5000, []int{999, 1000, 4999}, []int{999}},
	} {
		holds(t, bitset.Of(x.n, x.l...), min(max(x.n, 0), api.MaxBits), x.want...)
	}
}

// The document's rule R5, and P3.1: a list that is handed in is not changed, and not kept.
func TestOfLeavesItsList(t *testing.T) {
	l := []int{9, 3, 3, -1, 70, 5}
	s := bitset.Of(70, l...)
	if !slices.Equal(l, []int{9, 3, 3, -1, 70, 5}) {
		t.Error(l)
	}
	for i := range l {
		l[i] = 1
	}
	holds(t, s, 70, 3, 5, 9)
}

// P3.2: sets of two widths, met and held against each other; a union takes only what are its own numbers, and says so.
func TestTwoSets(t *testing.T) {
	for _, x := range []struct {
		n             int
		s             []int
		m             int
		o, union      []int
		meets, same   bool
		grows, growsO bool
	}{
		{10, nil, 10, nil, nil, false, true, false, false},
		{0, nil, 1000, nil, nil, false, true, false, false},
		{0, nil, 9, []int{0, 8}, nil, false, false, false, false},
		{9, []int{0, 8}, 0, nil, []int{0, 8}, false, false, false, false},
		{10, []int{1}, 10, []int{1}, []int{1}, true, true, false, false},
		{10, []int{1}, 10, []int{2}, []int{1, 2}, false, false, true, true},
		{10, []int{1, 2}, 10, []int{2}, []int{1, 2}, true, false, false, true},
		{10, []int{2}, 10, []int{1, 2}, []int{1, 2}, true, false, true, false},
		{5, []int{1}, 9, []int{1, 7}, []int{1}, true, false, false, false},
		{5, []int{1}, 9, []int{7}, []int{1}, false, false, false, true},
		{5, []int{1}, 9, []int{4, 5}, []int{1, 4}, false, false, true, true},
		{5, nil, 6, []int{5}, nil, false, false, false, false},
		{64, []int{63}, 65, []int{63, 64}, []int{63}, true, false, false, false},
		{65, []int{0}, 1000, []int{64, 65, 128}, []int{0, 64}, false, false, true, true},
		{66, []int{1, 65}, 1000, []int{1, 65}, []int{1, 65}, true, true, false, false},
		{130, []int{1, 129}, 130, []int{65, 128}, []int{1, 65, 128, 129}, false, false, true, true},
		{999, []int{998}, 1000, []int{999}, []int{998}, false, false, false, true},
		{999, []int{998}, 1000, []int{998, 999}, []int{998}, true, false, false, false},
		{1000, []int{999}, 1000, []int{999}, []int{999}, true, true, false, false},
	} {
		s, o := bitset.Of(x.n, x.s...), bitset.Of(x.m, x.o...)
		if s.Meets(o) != x.meets || o.Meets(s) != x.meets {
			t.Errorf("%v meets %v: %t, %t", x.s, x.o, s.Meets(o), o.Meets(s))
		}
		if s.Same(o) != x.same || o.Same(s) != x.same {
			t.Errorf("%v is the same as %v: %t, %t", x.s, x.o, s.Same(o), o.Same(s))
		}
		if c := o.Copy(); c.Union(s) != x.growsO {
			t.Errorf("%v below %d with %v grows: %t", x.o, x.m, x.s, !x.growsO)
		}
		if s.Union(o) != x.grows {
			t.Errorf("%v below %d with %v grows: %t", x.s, x.n, x.o, !x.grows)
		}
		holds(t, s, x.n, x.union...)
		holds(t, o, x.m, x.o...)
		if s.Union(o) {
			t.Errorf("%v below %d with %v grows twice", x.s, x.n, x.o)
		}
		holds(t, s, x.n, x.union...)
	}
}

// P3.2: what a narrow set did not take of a wide one lies nowhere in it, and comes to nobody by it.
func TestUnionKeepsNothingHidden(t *testing.T) {
	for _, width := range widths {
		s := bitset.New(width)
		if full := bitset.Of(api.MaxBits, below(api.MaxBits)...); s.Union(full) != (width > 0) {
			t.Errorf("width %d: grows %t", width, width == 0)
		}
		holds(t, s, width, below(width)...)
		if !s.Same(bitset.Of(width, below(width)...)) || !s.Same(bitset.Of(api.MaxBits, below(width)...)) {
			t.Errorf("width %d is not the same as one of its numbers", width)
		}
		rest := bitset.New(api.MaxBits)
		for i := width; i < api.MaxBits; i++ {
			rest.Add(i)
		}
		if s.Meets(rest) || rest.Meets(s) {
			t.Errorf("width %d meets what is no number of it", width)
		}
		wide := bitset.New(api.MaxBits)
		wide.Union(s)
		holds(t, wide, api.MaxBits, below(width)...)
		holds(t, s.Copy(), width, below(width)...)
	}
}

// P3.2
func TestWithItself(t *testing.T) {
	for _, l := range [][]int{nil, {0}, {3, 64, 69}} {
		s := bitset.Of(70, l...)
		if s.Union(s) {
			t.Errorf("%v grows by itself", l)
		}
		if s.Meets(s) != (len(l) > 0) || !s.Same(s) {
			t.Errorf("%v with itself: meets %t, same %t", l, s.Meets(s), s.Same(s))
		}
		holds(t, s, 70, l...)
	}
}

// The document's rule R1: a set that is none ends no call by a panic; it counts as one without numbers.
func TestWithNoSet(t *testing.T) {
	s := bitset.Of(70, 3, 69)
	if s.Union(nil) || s.Meets(nil) || s.Same(nil) {
		t.Error("a set grows by, meets, or is the same as none")
	}
	holds(t, s, 70, 3, 69)
	if !bitset.New(70).Same(nil) {
		t.Error("a set without numbers is not the same as none")
	}
}

// P3.2: a copy has its origin's width and numbers, and neither sees what becomes of the other one.
func TestCopyIsOnItsOwn(t *testing.T) {
	s := bitset.Of(130, 0, 64, 129)
	c := s.Copy()
	holds(t, c, 130, 0, 64, 129)
	if !c.Add(128) || !c.Drop(0) || c.Add(130) {
		t.Error("a copy is not of its origin's width and numbers")
	}
	holds(t, c, 130, 64, 128, 129)
	holds(t, s, 130, 0, 64, 129)
	s.Drop(129)
	s.Union(bitset.Of(1000, 1, 2, 500))
	holds(t, s, 130, 0, 1, 2, 64)
	holds(t, c, 130, 64, 128, 129)
	for _, width := range widths {
		holds(t, bitset.New(width).Copy(), width)
	}
}

// P3.3, and the language's rule 7: each list is new; who changes one changes no set, and no other list.
func TestListIsNew(t *testing.T) {
	s := bitset.Of(70, 3, 5, 69)
	l, other := s.List(), s.List()
	l[0] = 9
	_ = append(l[:1], 8)
	if !slices.Equal(other, []int{3, 5, 69}) {
		t.Error(other)
	}
	holds(t, s, 70, 3, 5, 69)
	s.Drop(5)
	if !slices.Equal(other, []int{3, 5, 69}) {
		t.Error(other)
	}
}

// P3.3: an iterator tells no more than it is asked.
func TestEachIsBrokenOff(t *testing.T) {
	want := []int{0, 5, 63, 64, 70, 199}
	s := bitset.Of(200, want...)
	for n := range len(want) + 1 {
		var l []int
		asked := 0
		s.Each()(func(i int) bool {
			asked++
			l = append(l, i)
			return len(l) <= n
		})
		if m := min(n+1, len(want)); asked != m || !slices.Equal(l, want[:m]) {
			t.Errorf("asked for %d more: %d told, %v", n, asked, l)
		}
	}
	for range s.Each() {
		break
	}
	holds(t, s, 200, want...)
	for i := range bitset.New(200).Each() {
		t.Errorf("a set without numbers tells %d", i)
	}
}

// P3.3: what is told is the set as it was when Each was called, whatever becomes of it ahead, or meanwhile.
func TestEachTellsWhatWas(t *testing.T) {
	s := bitset.Of(200, 5, 70, 199)
	each := s.Each()
	s.Add(6)
	s.Drop(70)
	if l := told(each); !slices.Equal(l, []int{5, 70, 199}) {
		t.Error(l)
	}
	if l := told(s.Each()); !slices.Equal(l, []int{5, 6, 199}) {
		t.Error(l)
	}
	var l []int
	for i := range s.Each() {
		l = append(l, i)
		s.Drop(6)
		s.Drop(199)
		s.Add(i + 1)
		s.Add(i + 2)
		s.Union(bitset.Of(200, 100, 198))
	}
	if !slices.Equal(l, []int{5, 6, 199}) {
		t.Error(l)
	}
	holds(t, s, 200, 5, 7, 8, 100, 198)
}

// P3.3: one iterator is gone through again and again, and within itself, and tells the same.
func TestEachIsToldAgain(t *testing.T) {
	want := []int{1, 64, 65}
	s := bitset.Of(66, want...)
	each := s.Each()
	var pairs [][2]int
	for i := range each {
		if i == 65 {
			break
		}
		for j := range each {
			pairs = append(pairs, [2]int{i, j})
		}
	}
	if !slices.Equal(pairs, [][2]int{{1, 1}, {1, 64}, {1, 65}, {64, 1}, {64, 64}, {64, 65}}) {
		t.Error(pairs)
	}
	for range 2 {
		if l := told(each); !slices.Equal(l, want) {
			t.Error(l)
		}
	}
}

// model is what the chapter tells of a set.
type model struct {
	width int
	has   map[int]bool
}

// list are a model's numbers, rising.
func (x *model) list() []int {
	var l []int
	for i := range x.has {
		l = append(l, i)
	}
	slices.Sort(l)
	return l
}

// add is what an add answers.
func (x *model) add(i int) bool {
	if i < 0 || i >= x.width || x.has[i] {
		return false
	}
	x.has[i] = true
	return true
}

// drop is what a drop answers.
func (x *model) drop(i int) bool {
	was := x.has[i]
	delete(x.has, i)
	return was
}

// union is what a union answers.
func (x *model) union(o *model) bool {
	grows := false
	for i := range o.has {
		grows = x.add(i) || grows
	}
	return grows
}

// meets is what a meeting answers.
func (x *model) meets(o *model) bool {
	for i := range x.has {
		if o.has[i] {
			return true
		}
	}
	return false
}

// copied is one of its own.
func (x *model) copied() *model {
	c := &model{x.width, map[int]bool{}}
	for i := range x.has {
		c.has[i] = true
	}
	return c
}

// numbers are told from a seed, alike in every run.
type numbers struct{ seed uint64 }

// below is the next number, from 0 on.
func (x *numbers) below(n int) int {
	x.seed = x.seed*6364136223846793005 + 1442695040888963407
	return int(x.seed>>33) % n
}

// walk is some sets, and their models, on which ops are done.
type walk struct {
	next   *numbers
	sets   [3]*bitset.Set
	models [3]*model
}

// step does one op of one set, and maybe another one; it fails the test where the models answer otherwise.
func (w *walk) step(t *testing.T) {
	t.Helper()
	k, o := w.next.below(3), w.next.below(3)
	s, m := w.sets[k], w.models[k]
	i := w.next.below(m.width+8) - 4
	switch w.next.below(8) {
	case 0, 1, 2:
		if got, want := s.Add(i), m.add(i); got != want {
			t.Fatalf("Add(%d) below %d = %t", i, m.width, got)
		}
	case 3, 4:
		if got, want := s.Drop(i), m.drop(i); got != want {
			t.Fatalf("Drop(%d) = %t", i, got)
		}
	case 5:
		if got, want := s.Union(w.sets[o]), m.union(w.models[o]); got != want {
			t.Fatalf("Union = %t, of %v", got, w.models[o].list())
		}
	case 6:
		w.sets[k], w.models[k] = w.sets[o].Copy(), w.models[o].copied()
	default:
		width := w.next.below(140)
		w.sets[k], w.models[k] = bitset.New(width), &model{width, map[int]bool{}}
	}
}

// agrees fails the test if some set is not as its model, or two are not to each other as theirs.
func (w *walk) agrees(t *testing.T) {
	t.Helper()
	for k, s := range w.sets {
		m := w.models[k]
		l := m.list()
		if s.Width() != m.width || s.Len() != len(l) || !slices.Equal(s.List(), l) || !slices.Equal(told(s.Each()), l) {
			t.Fatalf("Width %d, Len %d, List %v, want %d, %v", s.Width(), s.Len(), s.List(), m.width, l)
		}
		for i := -2; i < m.width+2; i++ {
			if s.Has(i) != m.has[i] {
				t.Fatalf("Has(%d) = %t", i, s.Has(i))
			}
		}
		for j, o := range w.sets {
			if same := slices.Equal(l, w.models[j].list()); s.Same(o) != same {
				t.Fatalf("%v is the same as %v: %t", l, o.List(), !same)
			}
			if meets := m.meets(w.models[j]); s.Meets(o) != meets {
				t.Fatalf("%v meets %v: %t", l, o.List(), !meets)
			}
		}
	}
}

// P3.1, P3.2, P3.3: long walks of three sets of changing widths agree with the chapter's model.
func TestLongWalks(t *testing.T) {
	for seed := range uint64(100) {
		w := &walk{next: &numbers{seed}}
		for k := range w.sets {
			width := w.next.below(140)
			w.sets[k], w.models[k] = bitset.New(width), &model{width, map[int]bool{}}
		}
		for range 150 {
			w.step(t)
			w.agrees(t)
		}
	}
}
