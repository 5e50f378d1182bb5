package digraph_test

import (
	"math/rand"
	"slices"
	"testing"

	"tronage/api"
	"tronage/bitset"
	"tronage/digraph"
)

// The model goes out from each place anew, and keeps of each place whether it was come to; nothing is told by one place of another.

// reach is of each place whether each one is reached.
func reach(edges [][]int, places int) [][]bool {
	all := make([][]bool, places)
	for from := range all {
		come := make([]bool, places)
		come[from] = true
		for wait := []int{from}; len(wait) > 0; {
			place := wait[0]
			wait = wait[1:]
			if place >= len(edges) {
				continue
			}
			for _, to := range edges[place] {
				if 0 <= to && to < places && !come[to] {
					come[to] = true
					wait = append(wait, to)
				}
			}
		}
		all[from] = come
	}
	return all
}

// solved is what Solve should tell, as lists.
func solved(edges [][]int, base []*bitset.Set) [][]int {
	own, want := lists(base), [][]int{}
	for from, come := range reach(edges, len(base)) {
		has := make([]bool, base[from].Width())
		for to, is := range come {
			if !is {
				continue
			}
			for _, i := range own[to] {
				if i < len(has) {
					has[i] = true
				}
			}
		}
		want = append(want, trues(has))
	}
	return want
}

// trues are the places of a list at which it is true.
func trues(l []bool) []int {
	at := []int{}
	for i, is := range l {
		if is {
			at = append(at, i)
		}
	}
	return at
}

// parted is what Parts and Loops should tell.
func parted(edges [][]int) ([][]int, []int) {
	all := reach(edges, len(edges))
	var want [][]int
	loops := make([]bool, len(edges))
	for place, come := range all {
		var part []int
		for other, is := range come {
			if is && all[other][place] {
				part = append(part, other)
			}
		}
		if part[0] == place {
			want = append(want, part)
		}
		loops[place] = len(part) > 1 || slices.Contains(edges[place], place)
	}
	return want, trues(loops)
}

// agrees fails the test if the calls do not tell of edges, and of bases, what the model tells.
func agrees(t *testing.T, edges [][]int, base []*bitset.Set) {
	t.Helper()
	want, loops := parted(edges)
	parts(t, edges, loops, want...)
	solves(t, edges, base, solved(edges, base)...)
	if t.Failed() {
		t.FailNow()
	}
}

// P12.1, P12.2: all graphs of up to three places, with bases of all widths up to two, that have all their numbers.
func TestModelOfSmallGraphs(t *testing.T) {
	for places := range 4 {
		for n := range 1 << (places * places) {
			for w := range 1 << (2 * places) {
				var base []*bitset.Set
				for place := range places {
					base = append(base, bitset.Of(w>>(2*place)&3, 0, 1, 2))
				}
				edges := bits(places, n)
				if w > 0 {
					solves(t, edges, base, solved(edges, base)...)
				} else {
					agrees(t, edges, base)
				}
				if t.Failed() {
					t.FailNow()
				}
			}
		}
	}
}

// bits is the graph of so many places of a number: each bit is whether a place leads to another one.
func bits(places, n int) [][]int {
	edges := make([][]int, places)
	for i := range places * places {
		if n>>i&1 > 0 {
			edges[i/places] = append(edges[i/places], i%places)
		}
	}
	return edges
}

// P12.1, P12.2: all graphs of four places.
func TestModelOfFourPlaces(t *testing.T) {
	for n := range 1 << 16 {
		agrees(t, bits(4, n), own(4))
	}
}

// chance is a source of graphs.
type chance struct{ *rand.Rand }

// edges are so many lists, of up to some numbers; there are up to so many places, and some numbers are none.
func (r chance) edges(lists, places, most int) [][]int {
	l := make([][]int, lists)
	for i := range l {
		for range r.Intn(1 + most) {
			to := r.Intn(1+places+places/9) - 1
			if r.Intn(20) == 0 {
				to = never[r.Intn(len(never))]
			}
			l[i] = append(l[i], to)
		}
	}
	return l
}

// base are so many sets, of few numbers or of many, up to so wide.
func (r chance) base(places, widest int) []*bitset.Set {
	l := make([]*bitset.Set, places)
	for i := range l {
		l[i] = bitset.New(r.Intn(1 + widest))
		for range r.Intn(4) {
			l[i].Add(r.Intn(1 + widest))
		}
	}
	return l
}

// P12.1, P12.2: graphs by chance, with fewer lists than sets, as many, and more.
func TestModelByChance(t *testing.T) {
	r := chance{rand.New(rand.NewSource(12))}
	ringed, many := 0, 0
	for i := range 10000 {
		places := r.Intn(2 + i%40)
		lists := max(0, places+r.Intn(7)-3)
		widest := []int{3, 9, 70, 200, api.MaxBits + 9}[r.Intn(5)]
		edges := r.edges(lists, max(places, lists), 1+r.Intn(4))
		agrees(t, edges, r.base(places, widest))
		all := digraph.Parts(edges)
		if len(digraph.Loops(edges)) > 1 {
			ringed++
		}
		if len(slices.DeleteFunc(all, func(l []int) bool { return len(l) < 2 })) > 1 {
			many++
		}
	}
	if ringed < 1000 || many < 500 {
		t.Errorf("just %d graphs had loops, %d several parts of several places", ringed, many)
	}
}

// renumbered is a graph whose places have others' numbers.
func renumbered(edges [][]int, to []int) [][]int {
	l := make([][]int, len(edges))
	for place, list := range edges {
		for _, x := range list {
			if x >= 0 && x < len(to) {
				x = to[x]
			}
			l[to[place]] = append(l[to[place]], x)
		}
	}
	return l
}

// P12.1, P12.2: graphs with ways far longer than calls may stand in one another, some with steps back, or aside.
func TestModelOfLongWays(t *testing.T) {
	r := chance{rand.New(rand.NewSource(13))}
	for i := range 12 {
		places := 1100 + r.Intn(1200)
		edges := make([][]int, places)
		for place := range edges {
			edges[place] = []int{place + 1}
		}
		for range 1 << i {
			place := r.Intn(places)
			edges[place] = append(edges[place], max(0, place-r.Intn(20))+r.Intn(200)/199*r.Intn(places))
		}
		agrees(t, renumbered(edges, r.Perm(places)), r.base(places, 300))
	}
}

// chain is a graph of places that lead on, one to the next one, with some steps back, and of each place the least one that it reaches: two neighbours reach one another just if a step leads over their gap.
func (r chance) chain(places, steps, far int) ([][]int, []int) {
	edges, over, least := make([][]int, places), make([]int, places+1), make([]int, places)
	for place := range edges {
		edges[place] = []int{place + 1}
	}
	for range steps {
		from := r.Intn(places)
		to := max(0, from-r.Intn(1+far))
		edges[from] = append(edges[from], to)
		over[to+1]++
		over[from+1]--
	}
	for place := 1; place < places; place++ {
		over[place] += over[place-1]
		least[place] = place
		if over[place] > 0 {
			least[place] = least[place-1]
		}
	}
	return edges, least
}

// P12.1, P12.2: chains too long for the model, with few steps back and with many, near ones and far ones.
func TestLongChainsWithStepsBack(t *testing.T) {
	r := chance{rand.New(rand.NewSource(14))}
	for i := range 40 {
		places := 2000 + r.Intn(30000)
		edges, least := r.chain(places, 1<<(i%15), 1+places>>(i%11))
		to, base := r.Perm(places), r.base(places, 300)
		var want [][]int
		var loops []int
		last := slices.Repeat([]int{-1}, 301) // of each number the last place of the chain that has it
		for place := range places {
			if least[place] == place {
				want = append(want, nil)
			}
			want[len(want)-1] = append(want[len(want)-1], to[place])
			for _, n := range base[to[place]].List() {
				last[n] = place
			}
		}
		for place := range places {
			if least[place] < place || place+1 < places && least[place+1] <= place || slices.Contains(edges[place], place) {
				loops = append(loops, to[place])
			}
		}
		for _, part := range want {
			slices.Sort(part)
		}
		slices.SortFunc(want, slices.Compare)
		slices.Sort(loops)
		moved := renumbered(edges, to)
		if got := digraph.Parts(moved); !same(got, want) {
			t.Fatalf("a chain of %d places has %d parts, want %d, or others", places, len(got), len(want))
		}
		if got := digraph.Loops(moved); !slices.Equal(got, loops) {
			t.Fatalf("a chain of %d places has %d loops, want %d, or others", places, len(got), len(loops))
		}
		got := digraph.Solve(moved, base)
		for place := range places {
			s := got[to[place]]
			for n, at := range last {
				if s.Has(n) != (at >= least[place] && n < base[to[place]].Width()) {
					t.Fatalf("in a chain of %d places %d has %v", places, place, s.List())
				}
			}
		}
	}
}
