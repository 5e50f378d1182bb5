package tree_test

import (
	"fmt"
	"math"
	"runtime/debug"
	"slices"
	"strings"
	"testing"

	"tronage/api"
	"tronage/meter"
	"tronage/names"
	"tronage/reader"
	"tronage/tree"
)

// The symbols of all plans here: three terminals behind the end, and the variables that the rules have, S first.
const (
	a = 1
	b = 2
	c = 3
	S = 4
	T = 5
)

// plan is the plan of some rules.
func plan(t *testing.T, rules string) api.Plan {
	t.Helper()
	g, d := reader.Read(`%token a "a" %token b "b" %token c "c" %% ` + rules)
	if d.Code != api.OK {
		t.Fatal(rules, d)
	}
	p, e, name := names.Of(g)
	if e != api.OK {
		t.Fatal(rules, e, name)
	}
	return p
}

// usual is the plan of most tests: its rules are 1, 2 and 3.
func usual(t *testing.T) api.Plan {
	t.Helper()
	return plan(t, "S : T b S | ; T : a ;")
}

// token is a token of a terminal, whose place tells it from others.
func token(term, at int) api.Tok { return api.Tok{Term: term, From: at, To: at + 1} }

// trial is a tree that is tried, and its meter.
type trial struct {
	*tree.Tree
	t *testing.T
	m *meter.Meter
}

// of is an empty tree of a meter of its own.
func of(t *testing.T, limit int) trial {
	m := meter.New(limit)
	return trial{tree.New(m), t, m}
}

// leaf fails the test if the leaf of a token does not get a number.
func (x trial) leaf(want int, tok api.Tok) {
	x.t.Helper()
	if n, e := x.Leaf(tok); n != want || e != api.OK {
		x.t.Fatalf("Leaf(%v) = %d, %d, want %d", tok, n, e, want)
	}
}

// node fails the test if a node does not get a number.
func (x trial) node(want, rule, sym int, kids ...int) {
	x.t.Helper()
	if n, e := x.Node(rule, sym, kids...); n != want || e != api.OK {
		x.t.Fatalf("Node(%d, %d, %v) = %d, %d, want %d", rule, sym, kids, n, e, want)
	}
}

// all is what everything that a tree and its meter tell comes to, as a text, but what hangs on a plan.
func (x trial) all() string {
	var l strings.Builder
	fmt.Fprintln(&l, x.Len(), x.Cells(), x.m.Used(), x.m.Most())
	for i := -1; i <= x.Len(); i++ {
		fmt.Fprintln(&l, i, x.Sym(i), x.Rule(i), x.Tok(i), x.IsLeaf(i), x.Kids(i), x.Below(i), x.Yield(i))
	}
	return l.String()
}

// refused fails the test if a node is not refused with an error, or that changes anything.
func (x trial) refused(e api.Errno, kids ...int) {
	x.t.Helper()
	was := x.all()
	if n, got := x.Node(1, S, kids...); n != 0 || got != e {
		x.t.Errorf("Node above %v = %d, %d, want %d", kids, n, got, e)
	}
	if is := x.all(); is != was {
		x.t.Errorf("a node above %v is refused, and the tree is\n%snot\n%s", kids, is, was)
	}
}

// noLeaf fails the test if a leaf is not refused, or that changes anything.
func (x trial) noLeaf() {
	x.t.Helper()
	was := x.all()
	if n, e := x.Leaf(token(a, 0)); n != 0 || e != api.ErrQuota {
		x.t.Errorf("Leaf = %d, %d", n, e)
	}
	if is := x.all(); is != was {
		x.t.Errorf("a leaf is refused, and the tree is\n%snot\n%s", is, was)
	}
}

// has fails the test if there are not so many nodes of so many cells, or if not just those of the meter are used.
func (x trial) has(nodes, cells int) {
	x.t.Helper()
	if x.Len() != nodes || x.Cells() != cells || x.m.Used() != cells {
		x.t.Errorf("%d nodes of %d cells, %d are used, want %d of %d", x.Len(), x.Cells(), x.m.Used(), nodes, cells)
	}
}

// shows fails the test if a node is not this text.
func (x trial) shows(p api.Plan, i int, want string) {
	x.t.Helper()
	if s := x.Show(p, i); s != want {
		x.t.Errorf("Show of %d is %q, want %q", i, s, want)
	}
}

// below fails the test if not just these are below a node, in order.
func (x trial) below(i int, want ...int) {
	x.t.Helper()
	if l := x.Below(i); !slices.Equal(l, want) {
		x.t.Errorf("below %d are %v, want %v", i, l, want)
	}
}

// yields fails the test if not just these tokens are below a node, in order.
func (x trial) yields(i int, want ...api.Tok) {
	x.t.Helper()
	if l := x.Yield(i); !slices.Equal(l, want) {
		x.t.Errorf("the yield of %d is %v, want %v", i, l, want)
	}
}

// others are numbers that no node has where there are fewer than n.
func others(n int) []int {
	return []int{math.MinInt, -1 << 40, -1 << 32, -n - 1, -n, -2, -1, n, n + 1, 1 << 31, 1 << 32, 1 << 40, math.MaxInt}
}

// sentence is a tree of the usual plan: (S (T a) b (S)), whose root is 4.
func sentence(t *testing.T) trial {
	t.Helper()
	x := of(t, 20)
	x.leaf(0, token(a, 0))
	x.node(1, 3, T, 0)
	x.leaf(2, token(b, 1))
	x.node(3, 2, S)
	x.node(4, 1, S, 1, 2, 3)
	return x
}

// The chapter's examples.
func TestExamples(t *testing.T) {
	p := plan(t, "S : a b ; T : S ;")
	x := of(t, 6)
	x.leaf(0, token(a, 0))
	x.leaf(1, token(b, 1))
	x.node(2, 1, S, 0, 1)
	x.refused(api.ErrTwice, 0)
	x.leaf(3, token(c, 2))
	x.shows(p, 2, "(S a b)")
	x.yields(2, token(a, 0), token(b, 1))
	x.has(4, 6)
}

// P18.1
func TestNewHasNothing(t *testing.T) {
	m := meter.New(9)
	m.Take(4)
	x := trial{tree.New(m), t, m}
	if x.Len() != 0 || x.Cells() != 0 || m.Used() != 4 || m.Most() != 4 {
		t.Error(x.Len(), x.Cells(), m.Used(), m.Most())
	}
	noNodes(t, x, 0)
	if n := x.Reset(); n != 0 || m.Used() != 4 {
		t.Error(n, m.Used())
	}
	noNodes(t, x, 0)
	m.Give(4)
	x.leaf(0, token(a, 0))
	x.has(1, 1)
}

// noNodes fails the test if anything is told of numbers that are no nodes, where there are n.
func noNodes(t *testing.T, x trial, n int) {
	t.Helper()
	p := usual(t)
	for _, i := range others(n) {
		if x.Sym(i) != -1 || x.Rule(i) != -1 || x.Tok(i) != (api.Tok{}) || x.IsLeaf(i) || x.Right(p, i) {
			t.Errorf("of %d nodes %d tells %d, %d, %v, %t, %t", n, i, x.Sym(i), x.Rule(i), x.Tok(i), x.IsLeaf(i), x.Right(p, i))
		}
		if len(x.Kids(i)) != 0 || len(x.Below(i)) != 0 || len(x.Yield(i)) != 0 || x.Show(p, i) != "" {
			t.Errorf("of %d nodes %d tells %v, %v, %v, %q", n, i, x.Kids(i), x.Below(i), x.Yield(i), x.Show(p, i))
		}
	}
}

// P18.1: without any cell there are no nodes; what is wrong with kids is told all the same.
func TestNoCells(t *testing.T) {
	for _, limit := range []int{math.MinInt, -1, 0} {
		x := of(t, limit)
		x.noLeaf()
		x.refused(api.ErrQuota)
		x.refused(api.ErrRange, 0)
		x.refused(api.ErrRange, -1, -1)
		x.has(0, 0)
		if n := x.Reset(); n != 0 {
			t.Error(n)
		}
	}
}

// P18.1: with as many cells as are wanted there is a node, with one less there is none; what is refused can be done as soon as there are enough.
func TestCells(t *testing.T) {
	for kids := range 12 {
		m := meter.New(2*kids + 1)
		x := trial{tree.New(m), t, m}
		var l []int
		for i := range kids {
			x.leaf(i, token(a, i))
			l = append(l, i)
		}
		x.has(kids, kids)
		m.Take(1)
		x.refused(api.ErrQuota, l...)
		m.Take(m.Left())
		x.refused(api.ErrQuota, l...)
		x.noLeaf()
		m.Give(kids)
		x.refused(api.ErrQuota, l...)
		m.Give(1)
		x.node(kids, 1, S, l...)
		x.has(kids+1, 2*kids+1)
		x.noLeaf()
		x.refused(api.ErrQuota, kids)
		x.refused(api.ErrQuota)
	}
}

// P18.1: the last cell is a leaf's, or that of a node without kids.
func TestLastCell(t *testing.T) {
	x := of(t, 1)
	x.leaf(0, token(a, 0))
	x.noLeaf()
	x.refused(api.ErrQuota)
	x.has(1, 1)
	y := of(t, 1)
	y.node(0, 2, S)
	y.noLeaf()
	y.refused(api.ErrQuota, 0)
	y.has(1, 1)
	y.shows(usual(t), 0, "(S)")
}

// P18.1: numbers go on behind what is refused.
func TestNumbers(t *testing.T) {
	x := of(t, 7)
	x.leaf(0, token(a, 0))
	x.refused(api.ErrRange, 1)
	x.node(1, 3, T, 0)
	x.refused(api.ErrTwice, 0)
	x.leaf(2, token(b, 1))
	x.node(3, 2, S)
	x.refused(api.ErrQuota, 1, 2, 3)
	x.node(4, 2, S)
	x.leaf(5, token(c, 2))
	x.has(6, 7)
}

// P18.1: a kid that is none: below 0, just behind the last one (as the node itself would be), far off.
func TestKidsThatAreNone(t *testing.T) {
	for _, limit := range []int{3, 4, 20} { // with no cell left, too
		x := of(t, limit)
		x.leaf(0, token(a, 0))
		x.leaf(1, token(b, 1))
		x.leaf(2, token(c, 2))
		for _, i := range others(3) {
			x.refused(api.ErrRange, i)
			x.refused(api.ErrRange, i, 0)
			x.refused(api.ErrRange, 0, 1, 2, i)
			x.refused(api.ErrRange, 0, i, 2)
		}
		x.has(3, 3)
	}
}

// P18.1: the same kid twice in one call, wherever it stands.
func TestKidsToldTwice(t *testing.T) {
	x := of(t, 20)
	for i := range 5 {
		x.leaf(i, token(a, i))
	}
	for _, l := range [][]int{{0, 0}, {4, 4}, {0, 1, 0}, {0, 1, 1}, {1, 1, 0}, {3, 0, 4, 1, 2, 3}, {2, 2, 2}, {0, 1, 2, 3, 4, 0, 1, 2, 3, 4}} {
		x.refused(api.ErrTwice, l...)
	}
	x.node(5, 1, S, 3, 0, 4, 1, 2)
	x.has(6, 11)
}

// P18.1: the same kid below two nodes; a node above it is free.
func TestKidsOfOthers(t *testing.T) {
	x := of(t, 50)
	for i := range 4 {
		x.leaf(i, token(a, i))
	}
	x.node(4, 1, S, 0, 2)
	for _, l := range [][]int{{0}, {2}, {0, 2}, {1, 0}, {1, 3, 2}, {0, 4}, {4, 0}, {4, 4}} {
		x.refused(api.ErrTwice, l...)
	}
	x.node(5, 2, T, 4, 1)
	for _, l := range [][]int{{4}, {1}, {0}, {5, 0}, {3, 4}, {5, 5}} {
		x.refused(api.ErrTwice, l...)
	}
	x.node(6, 3, S, 3, 5)
	for i := range 6 {
		x.refused(api.ErrTwice, i)
		x.refused(api.ErrTwice, 6, i)
	}
	x.node(7, 1, T, 6)
	x.below(7, 3, 0, 2, 4, 1, 5, 6, 7)
	x.has(8, 15)
}

// P18.1: where several errors apply ErrRange comes ahead of ErrTwice, and that ahead of the meter's.
func TestWhichErrorComesFirst(t *testing.T) {
	for _, left := range []int{0, 1, 2, 3, 10} {
		x := of(t, 5+left)
		x.leaf(0, token(a, 0))
		x.leaf(1, token(b, 1))
		x.leaf(2, token(c, 2))
		x.node(3, 3, T, 0)
		for _, i := range []int{-1, 4} {
			x.refused(api.ErrRange, 0, i)
			x.refused(api.ErrRange, i, 0)
			x.refused(api.ErrRange, 1, 1, i)
			x.refused(api.ErrRange, i, 1, 1)
			x.refused(api.ErrRange, 1, i, 1)
			x.refused(api.ErrRange, 1, 2, i)
			x.refused(api.ErrRange, i, i)
		}
		for _, l := range [][]int{{0}, {0, 0}, {1, 1}, {1, 2, 1}, {1, 2, 0}, {0, 3}, {3, 3}, {1, 2, 3, 3}} {
			x.refused(api.ErrTwice, l...)
		}
		if left < 3 {
			x.refused(api.ErrQuota, 1, 2)
			x.refused(api.ErrQuota, 3, 1)
			continue
		}
		x.node(4, 1, S, 1, 2)
	}
}

// P18.1, R3: the kids of a node that is refused, by whatever error, are free for another one.
func TestRefusedNodesLeaveKidsFree(t *testing.T) {
	x := of(t, 8)
	for i := range 4 {
		x.leaf(i, token(a, i))
	}
	x.refused(api.ErrRange, 0, 1, 2, 3, 4)
	x.refused(api.ErrTwice, 0, 1, 2, 3, 3)
	x.refused(api.ErrTwice, 0, 1, 2, 3, 0)
	x.refused(api.ErrQuota, 0, 1, 2, 3)
	x.node(4, 1, S, 3)
	x.refused(api.ErrTwice, 0, 1, 2, 3)
	x.refused(api.ErrQuota, 0, 1)
	x.node(5, 1, T, 1)
	x.has(6, 8)
	x.below(4, 3, 4)
	x.below(5, 1, 5)
	x.m.Reset()
	x.node(6, 1, S, 0, 5, 4, 2)
	x.below(6, 0, 1, 5, 3, 4, 2, 6)
}

// P18.1: behind Reset there are no nodes; a tree that is filled anew has numbers from 0 on, and all kids are free.
func TestReset(t *testing.T) {
	x := sentence(t)
	x.m.Take(3)
	if n := x.Reset(); n != 9 || x.Len() != 0 || x.Cells() != 0 || x.m.Used() != 3 || x.m.Most() != 12 {
		t.Error(n, x.Len(), x.Cells(), x.m.Used(), x.m.Most())
	}
	noNodes(t, x, 5)
	noNodes(t, x, 0)
	x.refused(api.ErrRange, 0)
	if n := x.Reset(); n != 0 || x.m.Used() != 3 {
		t.Error(n, x.m.Used())
	}
	x.m.Give(3)
	x.leaf(0, token(b, 7))
	x.leaf(1, token(c, 8))
	x.refused(api.ErrRange, 2)
	x.node(2, 2, T, 1, 0)
	x.has(3, 5)
	x.below(2, 1, 0, 2)
	x.yields(2, token(c, 8), token(b, 7))
	x.refused(api.ErrTwice, 0)
	noNodes(t, x, 3)
	if n := x.Reset(); n != 5 {
		t.Error(n)
	}
	x.has(0, 0)
	for i := range 20 { // all cells are there again
		x.leaf(i, token(a, i))
	}
	x.noLeaf()
}

// P18.1: two trees, and another one, take from one meter; each has its own nodes, and gives back its own cells.
func TestTreesOfOneMeter(t *testing.T) {
	p := usual(t)
	m := meter.New(10)
	x, y := trial{tree.New(m), t, m}, trial{tree.New(m), t, m}
	x.leaf(0, token(a, 0))
	y.leaf(0, token(b, 1))
	y.leaf(1, token(b, 2))
	x.refused(api.ErrRange, 1)
	x.node(1, 3, T, 0)
	y.node(2, 2, S, 1)
	y.refused(api.ErrTwice, 1)
	m.Take(1)
	if x.Len() != 2 || x.Cells() != 3 || y.Len() != 3 || y.Cells() != 4 || m.Used() != 8 {
		t.Error(x.Len(), x.Cells(), y.Len(), y.Cells(), m.Used())
	}
	y.refused(api.ErrQuota, 0, 2)
	y.node(3, 2, S, 0)
	x.noLeaf()
	x.shows(p, 1, "(T a)")
	y.shows(p, 3, "(S b)")
	if n := x.Reset(); n != 3 || m.Used() != 7 {
		t.Error(n, m.Used())
	}
	y.below(3, 0, 3)
	y.below(2, 1, 2)
	y.leaf(4, token(c, 3))
	if n := y.Reset(); n != 7 || m.Used() != 1 {
		t.Error(n, m.Used())
	}
}

// P18.2: what leaves tell: their tokens are kept as they are, whatever is in them.
func TestLeaves(t *testing.T) {
	x := of(t, 100)
	var toks []api.Tok
	for _, term := range []int{a, b, c, 0, S, 99, -1, -2, math.MinInt, math.MaxInt} {
		toks = append(toks, api.Tok{Term: term}, api.Tok{Term: term, From: 7, To: 9}, api.Tok{Term: term, From: math.MaxInt, To: math.MinInt})
	}
	for i, tok := range toks {
		x.leaf(i, tok)
	}
	for i, tok := range toks {
		if x.Sym(i) != tok.Term || x.Rule(i) != -1 || x.Tok(i) != tok || !x.IsLeaf(i) || len(x.Kids(i)) != 0 {
			t.Errorf("the leaf of %v tells %d, %d, %v, %t, %v", tok, x.Sym(i), x.Rule(i), x.Tok(i), x.IsLeaf(i), x.Kids(i))
		}
		x.below(i, i)
		x.yields(i, tok)
	}
	x.has(len(toks), len(toks))
	noNodes(t, x, len(toks))
}

// P18.2: what nodes tell: rule and symbol are kept as they are, -1 too, which makes no leaf of one.
func TestNodes(t *testing.T) {
	x := of(t, 200)
	n := 0
	for _, rule := range []int{1, 2, 0, -1, -2, 99, math.MinInt, math.MaxInt} {
		for _, sym := range []int{S, T, 0, a, -1, 99, math.MinInt, math.MaxInt} {
			l := []int(nil)
			if n > 2 {
				l = []int{n - 3}
			}
			x.node(n, rule, sym, l...)
			if x.Sym(n) != sym || x.Rule(n) != rule || x.Tok(n) != (api.Tok{}) || x.IsLeaf(n) || !slices.Equal(x.Kids(n), l) {
				t.Errorf("the node of %d, %d tells %d, %d, %v, %t, %v", rule, sym, x.Sym(n), x.Rule(n), x.Tok(n), x.IsLeaf(n), x.Kids(n))
			}
			x.yields(n)
			n++
		}
	}
	noNodes(t, x, n)
}

// P18.2: what all nodes of a sentence's tree tell.
func TestSentence(t *testing.T) {
	x := sentence(t)
	x.has(5, 9)
	for i, want := range []struct {
		sym, rule int
		tok       api.Tok
		leaf      bool
		kids      []int
		below     []int
		yield     []api.Tok
		show      string
	}{
		{a, -1, token(a, 0), true, nil, []int{0}, []api.Tok{token(a, 0)}, "a"},
		{T, 3, api.Tok{}, false, []int{0}, []int{0, 1}, []api.Tok{token(a, 0)}, "(T a)"},
		{b, -1, token(b, 1), true, nil, []int{2}, []api.Tok{token(b, 1)}, "b"},
		{S, 2, api.Tok{}, false, nil, []int{3}, nil, "(S)"},
		{S, 1, api.Tok{}, false, []int{1, 2, 3}, []int{0, 1, 2, 3, 4}, []api.Tok{token(a, 0), token(b, 1)}, "(S (T a) b (S))"},
	} {
		if x.Sym(i) != want.sym || x.Rule(i) != want.rule || x.Tok(i) != want.tok || x.IsLeaf(i) != want.leaf || !slices.Equal(x.Kids(i), want.kids) {
			t.Errorf("%d tells %d, %d, %v, %t, %v, want %v", i, x.Sym(i), x.Rule(i), x.Tok(i), x.IsLeaf(i), x.Kids(i), want)
		}
		x.below(i, want.below...)
		x.yields(i, want.yield...)
		x.shows(usual(t), i, want.show)
		if !x.Right(usual(t), i) {
			t.Errorf("%d is not right", i)
		}
	}
}

// P18.2: kids, what is below them, and tokens come in the kids' order, not by their numbers.
func TestOrder(t *testing.T) {
	p := usual(t)
	x := of(t, 100)
	for i := range 6 {
		x.leaf(i, token(1+i%3, i))
	}
	x.node(6, 1, S, 5, 0)
	x.node(7, 2, T)
	x.node(8, 1, S, 4, 7, 6, 1)
	x.node(9, 1, T, 3)
	x.node(10, 2, S, 9, 8, 2)
	x.below(6, 5, 0, 6)
	x.below(8, 4, 7, 5, 0, 6, 1, 8)
	x.below(10, 3, 9, 4, 7, 5, 0, 6, 1, 8, 2, 10)
	x.yields(10, token(a, 3), token(b, 4), token(c, 5), token(a, 0), token(b, 1), token(c, 2))
	x.yields(7)
	x.shows(p, 10, "(S (T a) (S b (T) (S c a) b) c)")
	if l := x.Kids(8); !slices.Equal(l, []int{4, 7, 6, 1}) {
		t.Error(l)
	}
}

// P18.2: what is handed in as kids is memory of its own: neither is it changed, nor does it matter what becomes of it.
func TestKidsAreCopied(t *testing.T) {
	x := of(t, 100)
	for i := range 5 {
		x.leaf(i, token(a, i))
	}
	l := []int{3, 1, 4, 77, 78}
	x.node(5, 1, S, l[:3]...)
	if !slices.Equal(l, []int{3, 1, 4, 77, 78}) {
		t.Error(l)
	}
	was := x.all()
	x.refused(api.ErrTwice, l[:3]...)
	x.refused(api.ErrRange, l...)
	if !slices.Equal(l, []int{3, 1, 4, 77, 78}) {
		t.Error(l)
	}
	clear(l)
	if is := x.all(); is != was {
		t.Fatalf("\n%snot\n%s", is, was)
	}
	copy(l, []int{0, 2, 5})
	x.node(6, 1, S, l[:3]...)
	clear(l)
	x.below(6, 0, 2, 3, 1, 4, 5, 6)
	x.refused(api.ErrTwice, 5)
}

// P18.2: each list that is told is memory of its own: whoever changes one, or goes on behind its end, changes no other one.
func TestListsAreCopied(t *testing.T) {
	x := sentence(t)
	was := x.all()
	for i := range x.Len() {
		for range 2 {
			for _, l := range [][]int{x.Kids(i), x.Below(i)} {
				for k := range l[:cap(l)] {
					l[:cap(l)][k] = 99
				}
				_ = append(l, 98)
			}
			y := x.Yield(i)
			for k := range y[:cap(y)] {
				y[:cap(y)][k] = token(c, 99)
			}
		}
	}
	if is := x.all(); is != was {
		t.Errorf("\n%snot\n%s", is, was)
	}
	k, l := x.Kids(4), x.Below(4)
	x.refused(api.ErrTwice, k...)
	x.node(5, 1, T, 4)
	x.Reset()
	x.leaf(0, token(c, 5))
	if !slices.Equal(k, []int{1, 2, 3}) || !slices.Equal(l, []int{0, 1, 2, 3, 4}) {
		t.Error(k, l)
	}
}

// P18.3: a leaf is right if its terminal is one of the plan's, from 1 on.
func TestRightLeaves(t *testing.T) {
	p := usual(t)
	x := of(t, 100)
	for i, want := range []struct {
		term  int
		right bool
	}{{a, true}, {b, true}, {c, true}, {0, false}, {S, false}, {T, false}, {names.Accept(p), false}, {7, false}, {-1, false}, {math.MinInt, false}, {math.MaxInt, false}} {
		x.leaf(i, api.Tok{Term: want.term, From: 1, To: 2})
		if x.Right(p, i) != want.right {
			t.Errorf("a leaf of %d is right: %t", want.term, !want.right)
		}
	}
	if !x.Right(plan(t, "S : ;"), 0) || x.Right(api.Plan{}, 0) {
		t.Error("a leaf of another plan")
	}
}

// rightAbove is whether a node of a rule and a symbol is right, above leaves, and above right nodes, of these symbols.
func rightAbove(t *testing.T, p api.Plan, rule, sym int, kids ...int) bool {
	t.Helper()
	x := of(t, 100)
	var l []int
	for i, kid := range kids {
		switch kid {
		case S:
			x.node(x.Len(), 2, S)
		case T:
			x.leaf(x.Len(), token(a, i))
			x.node(x.Len(), 3, T, x.Len()-1)
		default:
			x.leaf(x.Len(), token(kid, i))
		}
		l = append(l, x.Len()-1)
	}
	x.node(x.Len(), rule, sym, l...)
	return x.Right(p, x.Len()-1)
}

// P18.3: a node's rule is one of the plan, from 1 on; its symbol is the rule's Left, its kids' are its Right.
func TestRightNodes(t *testing.T) {
	p := usual(t)
	for _, x := range []struct {
		right     bool
		rule, sym int
		kids      []int
	}{
		{true, 1, S, []int{T, b, S}}, {true, 2, S, nil}, {true, 3, T, []int{a}},

		{false, 0, names.Accept(p), []int{S}}, // just what the rule 0 is
		{false, 0, S, []int{T, b, S}}, {false, 0, S, nil}, {false, 0, T, []int{a}}, {false, 0, S, []int{S}}, {false, -1, S, nil}, {false, -1, T, []int{a}}, {false, -1, S, []int{T, b, S}},
		{false, 4, S, nil}, {false, 4, T, []int{a}}, {false, 99, S, nil}, {false, math.MinInt, S, nil}, {false, math.MaxInt, S, nil}, {false, -1 << 32, S, nil}, {false, 2 + 1<<32, S, nil},

		{false, 1, T, []int{T, b, S}}, {false, 2, T, nil}, {false, 3, S, []int{a}}, {false, 2, -1, nil}, {false, 2, 0, nil}, {false, 2, a, nil}, {false, 2, 99, nil}, {false, 2, names.Accept(p), nil}, {false, 3, T + 1<<32, []int{a}},

		{false, 1, S, nil}, {false, 1, S, []int{T}}, {false, 1, S, []int{T, b}}, {false, 1, S, []int{b, S}}, {false, 1, S, []int{T, S}}, {false, 3, T, nil},
		{false, 1, S, []int{T, b, S, S}}, {false, 1, S, []int{T, T, b, S}}, {false, 2, S, []int{S}}, {false, 2, S, []int{a}}, {false, 3, T, []int{a, a}}, {false, 3, T, []int{a, S}},
		{false, 1, S, []int{T, b, T}}, {false, 1, S, []int{S, b, S}}, {false, 1, S, []int{T, a, S}}, {false, 1, S, []int{T, S, b}}, {false, 1, S, []int{S, b, T}}, {false, 1, S, []int{a, b, S}}, {false, 3, T, []int{b}}, {false, 3, T, []int{T}}, {false, 3, T, []int{S}},
	} {
		if rightAbove(t, p, x.rule, x.sym, x.kids...) != x.right {
			t.Errorf("a node of %d, %d above %v is right: %t", x.rule, x.sym, x.kids, !x.right)
		}
	}
	if !rightAbove(t, plan(t, "S : T ; S : ; T : a ;"), 1, S, T) || rightAbove(t, plan(t, "S : T ; S : ; T : a ;"), 3, T, T) {
		t.Error("a rule of one variable")
	}
}

// P18.3: a leaf of a variable's number is as a node by its symbol alone: what is above it is not right, as it is not.
func TestRightOfLeavesOfVariables(t *testing.T) {
	p := usual(t)
	x := of(t, 100)
	x.leaf(0, token(a, 0))
	x.node(1, 3, T, 0)
	x.leaf(2, token(b, 1))
	x.leaf(3, token(S, 2))
	x.node(4, 1, S, 1, 2, 3)
	x.node(5, 9, a)
	x.node(6, 3, T, 5)
	if x.Right(p, 3) || x.Right(p, 4) || x.Right(p, 5) || x.Right(p, 6) || !x.Right(p, 1) {
		t.Error("a tree above a leaf that is a variable's, or a node that is a terminal's, is right")
	}
}

// P18.3: one node that is wrong, far below, and first, last, or in the middle, makes all above it wrong, and nothing else.
func TestRightFarBelow(t *testing.T) {
	p := plan(t, "S : S S | a | ;")
	const depth = 40
	for wrong := range 2 * depth {
		x := of(t, 10000)
		x.leaf(0, token(a, 0))
		x.node(1, 2, S, 0)
		for i := range depth {
			n := x.Len()
			rule := 3
			if i == wrong {
				rule = 2
			}
			x.node(n, rule, S)
			l := []int{n - 1, n}
			if i%2 == 0 {
				l = []int{n, n - 1}
			}
			x.node(n+1, 1, S, l...)
		}
		for n := range x.Len() {
			want := n <= 1 || n%2 == 0 && n != 2*wrong+2 || n%2 == 1 && n < 2*wrong+2
			if x.Right(p, n) != want {
				t.Fatalf("with %d wrong %d is right: %t", 2*wrong+2, n, !want)
			}
		}
	}
}

// P18.3: trees are right by a plan, or not; the same tree may be right by one, and wrong by another one.
func TestRightByPlans(t *testing.T) {
	x := sentence(t)
	for s, want := range map[string]bool{
		"S : T b S | ; T : a ;": true, "S : T b S | ; T : a ; T : S ;": true, "S : T b S {$1} | {1} ; T : a {$1} ;": true,
		"S : T b S | ; T : b ;": false, "S : T b S | a ; T : a ;": false, "S : T b S | ; T : a a ;": false, "S : T b S | ; T : ;": false,
		"S : | T b S ; T : a ;": false, "S : T b S ; T : a ; S : ;": false, "S : T b S S | ; T : a ;": false, "S : T c S | ; T : a ;": false, "S : ;": false,
	} {
		if x.Right(plan(t, s), 4) != want {
			t.Errorf("by %s it is right: %t", s, !want)
		}
	}
	if x.Right(api.Plan{}, 4) || x.Right(api.Plan{}, 0) {
		t.Error("by a plan of nothing it is right")
	}
}

// P18.3: what Show tells of terminals and symbols that are none: they have no name.
func TestShowWithoutNames(t *testing.T) {
	p := usual(t)
	x := of(t, 100)
	for i, want := range []struct {
		sym  int
		name string
	}{{0, "$end"}, {a, "a"}, {S, "S"}, {T, "T"}, {6, "$accept"}, {7, ""}, {-1, ""}, {math.MinInt, ""}, {math.MaxInt, ""}, {1 << 32, ""}} {
		x.leaf(2*i, token(want.sym, i))
		x.node(2*i+1, -1, want.sym, 2*i)
		x.shows(p, 2*i, want.name)
		x.shows(p, 2*i+1, "("+want.name+" "+want.name+")")
	}
	n := x.Len()
	x.node(n, 0, 99)
	x.leaf(n+1, token(99, 0))
	x.leaf(n+2, token(a, 0))
	x.node(n+3, 9, -1, n+1, n, n+2)
	x.node(n+4, 1, S, n+3)
	x.shows(p, n, "()")
	x.shows(p, n+3, "(  () a)")
	x.shows(p, n+4, "(S (  () a))")
	x.shows(api.Plan{}, 1, "($accept $accept)") // 0, where there are no symbols
	x.shows(api.Plan{}, 3, "( )")
}

// P18.3: the same tree by plans of other names; a number that is none is empty by all of them.
func TestShowByPlans(t *testing.T) {
	x := sentence(t)
	x.shows(usual(t), 4, "(S (T a) b (S))")
	x.shows(plan(t, "longer_name : ; _2 : longer_name ;"), 4, "(longer_name (_2 a) b (longer_name))")
	x.shows(plan(t, "S : ;"), 4, "(S ($accept a) b (S))")
	for _, i := range others(5) {
		x.shows(plan(t, "longer_name : ; _2 : longer_name ;"), i, "")
	}
	x.node(5, 1, T, 4)
	x.node(6, 1, T, 5)
	x.shows(usual(t), 6, "(T (T (S (T a) b (S))))")
}

// P18.4: no node is below itself, whatever is handed in to make it so.
func TestNoneIsBelowItself(t *testing.T) {
	x := of(t, 100)
	x.refused(api.ErrRange, 0)
	x.leaf(0, token(a, 0))
	x.refused(api.ErrRange, 1)
	x.node(1, 1, S, 0)
	x.refused(api.ErrRange, 1, 2)
	x.node(2, 1, S, 1)
	x.refused(api.ErrRange, 3)
	x.Reset()
	x.refused(api.ErrRange, 0)
	x.node(0, 1, S)
	x.refused(api.ErrRange, 0, 1)
	x.node(1, 1, S, 0)
	x.below(1, 0, 1)
}

// R1: however deep a tree is, no stack grows by it.
func TestDeepTree(t *testing.T) {
	defer debug.SetMaxStack(debug.SetMaxStack(1 << 20))
	const deep = 1 << 18
	p := plan(t, "S : S b | b S | a ;")
	x := of(t, 6*deep)
	x.leaf(0, token(a, 0))
	x.node(1, 3, S, 0)
	root := 1
	for i := range deep {
		x.leaf(root+1, token(b, i))
		if i%2 == 0 {
			x.node(root+2, 1, S, root, root+1)
		} else {
			x.node(root+2, 2, S, root+1, root)
		}
		root += 2
	}
	x.has(2*deep+2, 4*deep+3)
	if !x.Right(p, root) {
		t.Error("it is not right")
	}
	want := strings.Repeat("(S b (S ", deep/2) + "(S a)" + strings.Repeat(" b))", deep/2)
	if s := x.Show(p, root); s != want {
		t.Errorf("it is shown by %d bytes, not %d", len(s), len(want))
	}
	l := x.Below(root)
	if len(l) != x.Len() || l[0] != root-1 || l[len(l)-1] != root || l[len(l)-2] != root-2 {
		t.Error(len(l), l[0])
	}
	y := x.Yield(root)
	if len(y) != deep+1 || y[0] != token(b, deep-1) || y[deep/2] != token(a, 0) || y[deep] != token(b, deep-2) {
		t.Error(len(y), y[0])
	}
	x.node(root+1, 9, S, root)
	if x.Right(p, root+1) || !x.Right(p, root) {
		t.Error("right")
	}
	if n := x.Reset(); n != 4*deep+5 {
		t.Error(n)
	}
}

// R1: a node may have any number of kids.
func TestWideTree(t *testing.T) {
	const wide = 1 << 18
	p := usual(t)
	x := of(t, 3*wide)
	l := make([]int, wide)
	for i := range wide {
		x.leaf(i, token(a, i))
		l[wide-1-i] = i
	}
	l[0] = l[wide-1]
	x.has(wide, wide)
	if n, e := x.Node(1, S, l...); n != 0 || e != api.ErrTwice {
		t.Error(n, e)
	}
	l[0] = wide
	if n, e := x.Node(1, S, l...); n != 0 || e != api.ErrRange {
		t.Error(n, e)
	}
	l[0] = wide - 1
	x.node(wide, 1, S, l...)
	x.has(wide+1, 2*wide+1)
	if below := x.Below(wide); len(below) != wide+1 || !slices.Equal(below[:wide], l) || below[wide] != wide || !slices.Equal(x.Kids(wide), l) {
		t.Error(len(below))
	}
	if y := x.Yield(wide); len(y) != wide || y[0] != token(a, wide-1) || y[wide-1] != token(a, 0) {
		t.Error(len(y))
	}
	if s := x.Show(p, wide); s != "(S"+strings.Repeat(" a", wide)+")" || x.Right(p, wide) {
		t.Error(len(s))
	}
	if n, e := x.Node(1, S, 0); n != 0 || e != api.ErrTwice {
		t.Error(n, e)
	}
}
