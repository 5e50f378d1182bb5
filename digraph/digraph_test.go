package digraph_test

import (
	"math"
	"runtime/debug"
	"slices"
	"testing"

	"tronage/api"
	"tronage/bitset"
	"tronage/digraph"
)

// never are numbers that no place has.
var never = []int{math.MinInt, -1 << 40, -2, -1, 1 << 20, 1 << 40, math.MaxInt}

// sets are bases of one width.
func sets(width int, lists ...[]int) []*bitset.Set {
	var base []*bitset.Set
	for _, l := range lists {
		base = append(base, bitset.Of(width, l...))
	}
	return base
}

// own are bases of so many places, each of which has its own number alone.
func own(places int) []*bitset.Set {
	var base []*bitset.Set
	for place := range places {
		base = append(base, bitset.Of(api.MaxBits, place))
	}
	return base
}

// lists are the numbers of sets.
func lists(sets []*bitset.Set) [][]int {
	l := [][]int{}
	for _, s := range sets {
		l = append(l, s.List())
	}
	return l
}

// same tells whether lists are the same ones, in the same order.
func same(a, b [][]int) bool { return slices.EqualFunc(a, b, slices.Equal) }

// deep is a copy of lists that shares nothing with them.
func deep(l [][]int) [][]int {
	var c [][]int
	for _, x := range l {
		c = append(c, slices.Clone(x))
	}
	return c
}

// solves fails the test if Solve does not tell, of each place, a set of its base's width with just these numbers.
func solves(t *testing.T, edges [][]int, base []*bitset.Set, want ...[]int) {
	t.Helper()
	got := digraph.Solve(edges, base)
	if !same(lists(got), want) {
		t.Errorf("of %v, %v Solve tells %v, want %v", edges, lists(base), lists(got), want)
	}
	for place, s := range got {
		if s.Width() != base[place].Width() {
			t.Errorf("of %v the set of %d is %d wide, its base %d", edges, place, s.Width(), base[place].Width())
		}
	}
}

// parts fails the test if Parts, or Loops, tells anything else.
func parts(t *testing.T, edges [][]int, loops []int, want ...[]int) {
	t.Helper()
	if got := digraph.Parts(edges); !same(got, want) {
		t.Errorf("of %v Parts tells %v, want %v", edges, got, want)
	}
	if got := digraph.Loops(edges); !slices.Equal(got, loops) {
		t.Errorf("of %v Loops tells %v, want %v", edges, got, loops)
	}
}

// P12.1, P12.2: the chapter's examples.
func TestExamples(t *testing.T) {
	edges := [][]int{{1}, {0, 2}, nil}
	solves(t, edges, sets(9, []int{5}, []int{6}, []int{7}), []int{5, 6, 7}, []int{5, 6, 7}, []int{7})
	parts(t, edges, []int{0, 1}, []int{0, 1}, []int{2})
}

// P12.1, P12.2; R4: of no places there is nothing to tell.
func TestNoPlaces(t *testing.T) {
	for _, edges := range [][][]int{nil, {}} {
		parts(t, edges, nil)
		solves(t, edges, nil)
		solves(t, edges, []*bitset.Set{})
	}
	solves(t, [][]int{{0}, {1, 0}}, nil)
}

// P12.1: places are as many as base has sets, of which those behind the lists lead to none.
func TestFewerListsThanSets(t *testing.T) {
	base := own(4)
	solves(t, nil, base, []int{0}, []int{1}, []int{2}, []int{3})
	solves(t, [][]int{{3}}, base, []int{0, 3}, []int{1}, []int{2}, []int{3})
	solves(t, [][]int{{2}, {0, 3, 4}}, base, []int{0, 2}, []int{0, 1, 2, 3}, []int{2}, []int{3})
}

// P12.1: lists behind the sets are of no places, and their numbers are no places'.
func TestMoreListsThanSets(t *testing.T) {
	edges := [][]int{{2}, {2, 3}, {0, 1}, {0}}
	solves(t, edges, own(1), []int{0})
	solves(t, edges, own(2), []int{0}, []int{1})
	solves(t, edges, own(3), []int{0, 1, 2}, []int{0, 1, 2}, []int{0, 1, 2})
	solves(t, edges, own(4), []int{0, 1, 2, 3}, []int{0, 1, 2, 3}, []int{0, 1, 2, 3}, []int{0, 1, 2, 3})
}

// P12.2: places are as many as there are lists; numbers from there on are no places.
func TestPlacesOfParts(t *testing.T) {
	parts(t, [][]int{{1}}, nil, []int{0})
	parts(t, [][]int{{1}, nil}, nil, []int{0}, []int{1})
	parts(t, [][]int{{1}, {2}}, nil, []int{0}, []int{1})
	parts(t, [][]int{{1}, {2}, {0}}, []int{0, 1, 2}, []int{0, 1, 2})
	parts(t, [][]int{nil, {}, nil}, nil, []int{0}, []int{1}, []int{2})
}

// P12.1, P12.2: numbers that are no places are passed over, wherever they stand in a list, and what stands behind them counts.
func TestNumbersThatAreNoPlaces(t *testing.T) {
	for _, n := range append([]int{3, 4, 5}, never...) {
		for _, edges := range [][][]int{
			{{n, 1}, {2, n, 0}, {n}},
			{{1, n}, {n, 2, 0}, {n, n}},
			{{n, n, 1, n}, {0, 2, n}, nil},
		} {
			parts(t, edges, []int{0, 1}, []int{0, 1}, []int{2})
			solves(t, edges, own(3), []int{0, 1, 2}, []int{0, 1, 2}, []int{2})
		}
	}
	parts(t, [][]int{never, never}, nil, []int{0}, []int{1})
	solves(t, [][]int{never, never}, own(2), []int{0}, []int{1})
}

// P12.2: a place that leads to itself alone comes back to itself, without others in its list.
func TestLeadsToItself(t *testing.T) {
	parts(t, [][]int{{0}}, []int{0}, []int{0})
	parts(t, [][]int{{1}, {1}, {1}}, []int{1}, []int{0}, []int{1}, []int{2})
	parts(t, [][]int{{1, 0}, nil, {0, 1, 2}}, []int{0, 2}, []int{0}, []int{1}, []int{2})
	parts(t, [][]int{{1}, {1, 0}}, []int{0, 1}, []int{0, 1})
	parts(t, [][]int{{0, 0, 0}, nil}, []int{0}, []int{0}, []int{1})
	solves(t, [][]int{{0}, {1, 0}}, own(2), []int{0}, []int{0, 1})
}

// P12.1, P12.2: a place may lead to another one twice.
func TestLeadsToOneTwice(t *testing.T) {
	edges := [][]int{{1, 1}, {2, 2, 3}, {1, 1}, nil}
	parts(t, edges, []int{1, 2}, []int{0}, []int{1, 2}, []int{3})
	solves(t, edges, own(4), []int{0, 1, 2, 3}, []int{1, 2, 3}, []int{1, 2, 3}, []int{3})
}

// P12.1, P12.2: places reach one another by way of others; a way there without one back makes no part.
func TestByWayOfOthers(t *testing.T) {
	parts(t, [][]int{{1}, {2}, {3}, nil}, nil, []int{0}, []int{1}, []int{2}, []int{3})
	solves(t, [][]int{{1}, {2}, {3}, nil}, own(4), []int{0, 1, 2, 3}, []int{1, 2, 3}, []int{2, 3}, []int{3})
	parts(t, [][]int{nil, {0}, {1}, {2}}, nil, []int{0}, []int{1}, []int{2}, []int{3})
	solves(t, [][]int{nil, {0}, {1}, {2}}, own(4), []int{0}, []int{0, 1}, []int{0, 1, 2}, []int{0, 1, 2, 3})

	ring := [][]int{{3}, {0}, {1}, {2}}
	parts(t, ring, []int{0, 1, 2, 3}, []int{0, 1, 2, 3})
	solves(t, ring, own(4), []int{0, 1, 2, 3}, []int{0, 1, 2, 3}, []int{0, 1, 2, 3}, []int{0, 1, 2, 3})

	// Two rings with one place in both: 1 comes to 3 by 0 alone.
	eight := [][]int{{1, 3}, {2}, {0}, {4}, {0}}
	parts(t, eight, []int{0, 1, 2, 3, 4}, []int{0, 1, 2, 3, 4})
	solves(t, eight, own(5), []int{0, 1, 2, 3, 4}, []int{0, 1, 2, 3, 4}, []int{0, 1, 2, 3, 4}, []int{0, 1, 2, 3, 4}, []int{0, 1, 2, 3, 4})

	// The way back leads from 3 to 2 alone, and from 2 to 0: 4, which is come to from between, is none of them.
	back := [][]int{{1}, {2}, {4, 3, 0}, {2}, nil}
	parts(t, back, []int{0, 1, 2, 3}, []int{0, 1, 2, 3}, []int{4})
	solves(t, back, own(5), []int{0, 1, 2, 3, 4}, []int{0, 1, 2, 3, 4}, []int{0, 1, 2, 3, 4}, []int{0, 1, 2, 3, 4}, []int{4})
}

// P12.1, P12.2: a part that is come to from another one stays its own, from wherever one sets out first.
func TestPartsBehindParts(t *testing.T) {
	parts(t, [][]int{{1}, {0, 2}, {3}, {2}}, []int{0, 1, 2, 3}, []int{0, 1}, []int{2, 3})
	solves(t, [][]int{{1}, {0, 2}, {3}, {2}}, own(4), []int{0, 1, 2, 3}, []int{0, 1, 2, 3}, []int{2, 3}, []int{2, 3})
	parts(t, [][]int{{1}, {0}, {3, 1}, {2}}, []int{0, 1, 2, 3}, []int{0, 1}, []int{2, 3})
	solves(t, [][]int{{1}, {0}, {3, 1}, {2}}, own(4), []int{0, 1}, []int{0, 1}, []int{0, 1, 2, 3}, []int{0, 1, 2, 3})

	// 0 and 2, and 1 and 3, come to 4 and 5.
	two := [][]int{{2}, {3}, {0, 5}, {4, 1}, {5}, {4}}
	parts(t, two, []int{0, 1, 2, 3, 4, 5}, []int{0, 2}, []int{1, 3}, []int{4, 5})
	solves(t, two, own(6), []int{0, 2, 4, 5}, []int{1, 3, 4, 5}, []int{0, 2, 4, 5}, []int{1, 3, 4, 5}, []int{4, 5}, []int{4, 5})

	// By two ways one comes to 3, which was left when the second one is gone.
	fork := [][]int{{1, 2}, {3}, {3}, nil}
	parts(t, fork, nil, []int{0}, []int{1}, []int{2}, []int{3})
	solves(t, fork, own(4), []int{0, 1, 2, 3}, []int{1, 3}, []int{2, 3}, []int{3})

	// What 2 comes to is told already when 2 still waits for 0.
	late := [][]int{{1, 2}, nil, {1, 0}}
	parts(t, late, []int{0, 2}, []int{0, 2}, []int{1})
	solves(t, late, own(3), []int{0, 1, 2}, []int{1}, []int{0, 1, 2})
}

// P12.2: lists stand in the order of their least places, whichever is come to first; each rises.
func TestOrderOfParts(t *testing.T) {
	parts(t, [][]int{{5}, {4}, {3}, {2}, {1}, {0}}, []int{0, 1, 2, 3, 4, 5}, []int{0, 5}, []int{1, 4}, []int{2, 3})
	parts(t, [][]int{{3, 4}, {2}, {1}, {0, 1}, nil, {6}, {5, 3}}, []int{0, 1, 2, 3, 5, 6}, []int{0, 3}, []int{1, 2}, []int{4}, []int{5, 6})
	parts(t, [][]int{{6}, nil, {8}, {0}, {2}, nil, {3}, nil, {4}}, []int{0, 2, 3, 4, 6, 8}, []int{0, 3, 6}, []int{1}, []int{2, 4, 8}, []int{5}, []int{7})
}

// P12.1: each set is as wide as its base; what a narrower one has no room for goes by it all the same.
func TestUnlikeWidths(t *testing.T) {
	unlike := func() []*bitset.Set {
		return []*bitset.Set{bitset.Of(9, 1), bitset.Of(3, 2), bitset.Of(100, 0, 7, 8, 9, 99)}
	}
	solves(t, [][]int{{1}, {2}}, unlike(), []int{0, 1, 2, 7, 8}, []int{0, 2}, []int{0, 7, 8, 9, 99})
	solves(t, [][]int{nil, {0}, {1}}, unlike(), []int{1}, []int{1, 2}, []int{0, 1, 2, 7, 8, 9, 99})
	solves(t, [][]int{{2}, {0}, {1}}, unlike(), []int{0, 1, 2, 7, 8}, []int{0, 1, 2}, []int{0, 1, 2, 7, 8, 9, 99})

	none := []*bitset.Set{bitset.Of(70, 69), bitset.New(0), bitset.Of(api.MaxBits, 63, 64, 69, 70, api.MaxBits-1), bitset.New(65)}
	solves(t, [][]int{{1}, {2}, {3}, {1}}, none, []int{63, 64, 69}, []int{}, []int{63, 64, 69, 70, api.MaxBits - 1}, []int{63, 64})
	solves(t, [][]int{{1}, {2}, {3}}, none, []int{63, 64, 69}, []int{}, []int{63, 64, 69, 70, api.MaxBits - 1}, []int{})
	solves(t, [][]int{{1}, {0}}, []*bitset.Set{bitset.New(0), bitset.New(0)}, []int{}, []int{})
	solves(t, [][]int{{1}}, []*bitset.Set{new(bitset.Set), bitset.Of(5, 4)}, []int{}, []int{4})
}

// P12.1: one set may be the base of several places.
func TestOneBaseOfSeveral(t *testing.T) {
	one := bitset.Of(9, 3)
	base := []*bitset.Set{one, bitset.Of(9, 4), one}
	solves(t, [][]int{{1}}, base, []int{3, 4}, []int{4}, []int{3})
	if !slices.Equal(one.List(), []int{3}) {
		t.Errorf("the base has %v", one.List())
	}
	for place, s := range digraph.Solve(nil, base) {
		if s == base[place] || !s.Add(8) {
			t.Errorf("the set of %d is no new one", place)
		}
	}
}

// R5: what is handed in stays as it was.
func TestHandedInStays(t *testing.T) {
	edges := [][]int{{4, 1, -1, 1, 9}, {2, 0}, {}, nil, {3, 0, 4, math.MaxInt, 2}}
	base := []*bitset.Set{bitset.Of(9, 1), bitset.Of(5, 2), bitset.Of(7, 6, 0), bitset.New(0), bitset.Of(100, 99)}
	wasEdges, wasBase := deep(edges), slices.Clone(base)
	var was []*bitset.Set
	for _, s := range base {
		was = append(was, s.Copy())
	}
	digraph.Solve(edges, base)
	digraph.Solve(edges[:2], base)
	digraph.Solve(edges, base[:3])
	digraph.Parts(edges)
	digraph.Loops(edges)
	if !same(edges, wasEdges) || !slices.Equal(base, wasBase) {
		t.Errorf("edges are %v, were %v", edges, wasEdges)
	}
	for place, s := range base {
		if !s.Same(was[place]) || s.Width() != was[place].Width() {
			t.Errorf("the base of %d is %v, was %v", place, s.List(), was[place].List())
		}
	}
}

// P12.1: sets are new ones; who changes one, or a base, changes no other one, and nothing that is told later.
func TestSetsAreNew(t *testing.T) {
	edges := [][]int{{1}, {0, 2}, nil, {4}, {3}}
	want := [][]int{{0, 1, 2}, {0, 1, 2}, {2}, {3, 4}, {3, 4}}
	base := own(5)
	got := digraph.Solve(edges, base)
	for place, s := range got {
		for i := range api.MaxBits {
			if !s.Add(i) {
				s.Drop(i)
			}
		}
		for other := place + 1; other < len(got); other++ {
			if !slices.Equal(got[other].List(), want[other]) {
				t.Errorf("whoever changes the set of %d has that of %d be %v", place, other, got[other].List())
			}
		}
		if !slices.Equal(base[place].List(), []int{place}) {
			t.Errorf("whoever changes the set of %d has its base be %v", place, base[place].List())
		}
	}
	solves(t, edges, base, want...)
	got = digraph.Solve(edges, base)
	for _, s := range base {
		s.Add(999)
	}
	edges[2] = []int{3}
	if !same(lists(got), want) {
		t.Errorf("whoever changes what was handed in has the answer be %v", lists(got))
	}
}

// R5, and the language's rule 7: lists are new ones, each by itself, up to what they have room for.
func TestListsAreNew(t *testing.T) {
	edges := [][]int{{1, 0}, {0, 2}, {3}, {2, 4}, nil, {5}}
	want := [][]int{{0, 1}, {2, 3}, {4}, {5}}
	was, got := deep(edges), digraph.Parts(edges)
	for i, l := range got {
		l = l[:cap(l)]
		for k := range l {
			l[k] = -7
		}
		if !same(got[i+1:], want[i+1:]) {
			t.Errorf("whoever changes the list %d has the others be %v", i, got[i+1:])
		}
	}
	loops := digraph.Loops(edges)
	loops = loops[:cap(loops)]
	for k := range loops {
		loops[k] = -7
	}
	if !same(edges, was) {
		t.Errorf("whoever changes what is told has the edges be %v", edges)
	}
	parts(t, edges, []int{0, 1, 2, 3, 5}, want...)
}

// R1: no sets are none that may be handed in; the calls end all the same.
func TestWrongSets(t *testing.T) {
	edges := [][]int{{1, 0, 1}, {2, 5, -1}, {0}, {3}}
	digraph.Solve(edges, make([]*bitset.Set, 4))
	digraph.Solve(edges, []*bitset.Set{nil, bitset.Of(3, 1), nil})
	digraph.Solve(nil, []*bitset.Set{nil})
}

// long fails the test if a chain of so many places, each of which leads to the next one, or back to the one ahead, and which may be closed to a ring, is not told right.
func long(t *testing.T, places int, back, ring bool) {
	t.Helper()
	edges, base := make([][]int, places), make([]*bitset.Set, places)
	first, last := 0, places-1
	for place := range places {
		edges[place], base[place] = []int{place + 1}, bitset.New(70)
		if back {
			edges[place] = []int{place - 1}
		}
	}
	if back {
		first, last = last, first
	}
	if ring {
		edges[last] = []int{first}
	}
	base[first], base[last] = bitset.Of(70, 1), bitset.Of(70, 69)
	got, loops := digraph.Parts(edges), digraph.Loops(edges)
	if ring {
		if len(got) != 1 || len(got[0]) != places || got[0][0] != 0 || got[0][places-1] != places-1 || !slices.Equal(loops, got[0]) {
			t.Errorf("a ring of %d places is %d parts, and has %d loops", places, len(got), len(loops))
		}
	} else if len(got) != places || got[0][0] != 0 || got[places-1][0] != places-1 || len(loops) != 0 {
		t.Errorf("a chain of %d places is %d parts, and has %d loops", places, len(got), len(loops))
	}
	for place, s := range digraph.Solve(edges, base) {
		if !s.Has(69) || s.Has(1) != (ring || place == first) || s.Len() > 2 {
			t.Fatalf("of %d places, %d has %v", places, place, s.List())
		}
	}
}

// R1: however long a way is, no stack grows by it.
func TestLongWays(t *testing.T) {
	defer debug.SetMaxStack(debug.SetMaxStack(4 << 20))
	for _, places := range []int{998, 999, 1000, 1001, 1002, 1003, 2001, 2002, 2003, 2004, 5000, 300000} {
		for _, back := range []bool{false, true} {
			long(t, places, back, false)
			long(t, places, back, true)
		}
	}
}

// R1: ways may be more than anybody could go, one by one; each place is gone through once.
func TestManyWays(t *testing.T) {
	const rhombs = 20000
	var edges [][]int
	for i := range rhombs {
		top := 3 * i
		edges = append(edges, []int{top + 1, top + 2, top + 1, top + 3}, []int{top + 3, top + 4}, []int{top + 4, top + 3})
	}
	edges = append(edges, nil)
	base := make([]*bitset.Set, len(edges))
	for place := range base {
		base[place] = bitset.New(9)
	}
	base[len(base)-1] = bitset.Of(9, 8)
	if got, loops := digraph.Parts(edges), digraph.Loops(edges); len(got) != len(edges) || len(loops) != 0 {
		t.Errorf("there are %d parts, %d loops", len(got), len(loops))
	}
	for place, s := range digraph.Solve(edges, base) {
		if !slices.Equal(s.List(), []int{8}) {
			t.Fatalf("%d has %v", place, s.List())
		}
	}
	all := make([]int, 1000)
	for place := range all {
		all[place] = place
	}
	every := slices.Repeat([][]int{all}, len(all))
	parts(t, every, all, all)
	solves(t, every, own(len(all)), slices.Repeat([][]int{all}, len(all))...)
}
