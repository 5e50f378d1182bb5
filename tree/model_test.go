package tree_test

import (
	"fmt"
	"math/rand"
	"slices"
	"strings"
	"testing"

	"tronage/api"
	"tronage/meter"
	"tronage/names"
	"tronage/tree"
)

// thing is the model of a node: its kids are things, not numbers.
type thing struct {
	number    int
	leaf      bool
	rule, sym int
	tok       api.Tok
	kids      []*thing
	above     *thing
}

// model is what the chapter tells of a tree, whose meter nobody else takes from.
type model struct {
	limit, cells, most int
	things             []*thing
}

// at is the thing of a number; nil, if there is none.
func (m *model) at(i int) *thing {
	if i < 0 || i >= len(m.things) {
		return nil
	}
	return m.things[i]
}

// put is what comes of a thing that costs so much.
func (m *model) put(x *thing, cells int) (int, api.Errno) {
	if m.cells+cells > m.limit {
		return 0, api.ErrQuota
	}
	m.cells += cells
	m.most = max(m.most, m.cells)
	x.number = len(m.things)
	m.things = append(m.things, x)
	for _, kid := range x.kids {
		kid.above = x
	}
	return x.number, api.OK
}

// node is what comes of a node.
func (m *model) node(rule, sym int, kids []int) (int, api.Errno) {
	x := &thing{rule: rule, sym: sym}
	e := api.OK
	for i, k := range kids {
		kid := m.at(k)
		if kid == nil {
			return 0, api.ErrRange
		}
		if kid.above != nil || slices.Contains(kids[:i], k) {
			e = api.ErrTwice
		}
		x.kids = append(x.kids, kid)
	}
	if e != api.OK {
		return 0, e
	}
	return m.put(x, 1+len(kids))
}

// reset is what comes of a Reset.
func (m *model) reset() int {
	was := m.cells
	m.things, m.cells = nil, 0
	return was
}

// below are all things from one downwards.
func (x *thing) below() []*thing {
	var l []*thing
	for _, kid := range x.kids {
		l = append(l, kid.below()...)
	}
	return append(l, x)
}

// show is a thing as a text.
func (x *thing) show(p api.Plan) string {
	if x.leaf {
		return names.Name(p, x.tok.Term)
	}
	l := []string{names.Name(p, x.sym)}
	for _, kid := range x.kids {
		l = append(l, kid.show(p))
	}
	return "(" + strings.Join(l, " ") + ")"
}

// right tells whether all from a thing downwards are as a plan has it, by the texts of its rules: each symbol has a name of its own.
func (x *thing) right(p api.Plan) bool {
	if x.leaf {
		return slices.Contains(p.Terms[1:], names.Name(p, x.tok.Term))
	}
	s := names.Name(p, x.sym) + " :"
	for _, kid := range x.kids {
		if !kid.right(p) {
			return false
		}
		s += " " + names.Name(p, kid.sym)
	}
	return x.rule != 0 && s == names.Show(p, x.rule)
}

// numbers are those of things.
func numbers(l []*thing) []int {
	var n []int
	for _, x := range l {
		n = append(n, x.number)
	}
	return n
}

// yield are the tokens of those things that are leaves.
func yield(l []*thing) []api.Tok {
	var toks []api.Tok
	for _, x := range l {
		if x.leaf {
			toks = append(toks, x.tok)
		}
	}
	return toks
}

// line is all that is told of a number.
func line(i, sym, rule int, tok api.Tok, leaf bool, kids, below []int, yield []api.Tok, right bool, show string) string {
	return fmt.Sprintf("%d: %d %d %v %t %v %v %v %t %q\n", i, sym, rule, tok, leaf, kids, below, yield, right, show)
}

// told is all that a model tells of its numbers, and of some others.
func (m *model) told(p api.Plan) string {
	s := fmt.Sprintln(len(m.things), m.cells, m.cells, m.most)
	for i := -2; i < len(m.things)+2; i++ {
		x := m.at(i)
		if x == nil {
			s += line(i, -1, -1, api.Tok{}, false, nil, nil, nil, false, "")
			continue
		}
		l := x.below()
		s += line(i, x.sym, x.rule, x.tok, x.leaf, numbers(x.kids), numbers(l), yield(l), x.right(p), x.show(p))
	}
	return s
}

// pair is a tree, its meter, and the model of both.
type pair struct {
	t    *testing.T
	p    api.Plan
	x    *tree.Tree
	m    *meter.Meter
	want *model
}

// start is an empty tree, and its model.
func start(t *testing.T, p api.Plan, limit int) pair {
	m := meter.New(limit)
	return pair{t, p, tree.New(m), m, &model{limit: limit}}
}

// same fails the test if the tree tells anything else than the model.
func (y pair) same() {
	y.t.Helper()
	x := y.x
	s := fmt.Sprintln(x.Len(), x.Cells(), y.m.Used(), y.m.Most())
	for i := -2; i < x.Len()+2; i++ {
		s += line(i, x.Sym(i), x.Rule(i), x.Tok(i), x.IsLeaf(i), x.Kids(i), x.Below(i), x.Yield(i), x.Right(y.p, i), x.Show(y.p, i))
	}
	if want := y.want.told(y.p); s != want {
		y.t.Fatalf("a tree tells\n%snot\n%s", s, want)
	}
}

// leaf makes a leaf in both.
func (y pair) leaf(tok api.Tok) api.Errno {
	y.t.Helper()
	n, e := y.x.Leaf(tok)
	if k, want := y.want.put(&thing{leaf: true, rule: -1, sym: tok.Term, tok: tok}, 1); n != k || e != want {
		y.t.Fatalf("Leaf(%v) = %d, %d, want %d, %d", tok, n, e, k, want)
	}
	return e
}

// node makes a node in both.
func (y pair) node(rule, sym int, kids ...int) api.Errno {
	y.t.Helper()
	k, want := y.want.node(rule, sym, kids)
	if n, e := y.x.Node(rule, sym, kids...); n != k || e != want {
		y.t.Fatalf("Node(%d, %d, %v) = %d, %d, want %d, %d", rule, sym, kids, n, e, k, want)
	}
	return want
}

// reset empties both.
func (y pair) reset() {
	y.t.Helper()
	want := y.want.reset()
	if n := y.x.Reset(); n != want {
		y.t.Fatalf("Reset = %d, want %d", n, want)
	}
}

// apart fails the test if a node is below itself, or if of two nodes, neither of which is below the other one, the same one is below both.
func (y pair) apart() {
	y.t.Helper()
	var below []map[int]int
	for i := range y.x.Len() {
		is := map[int]int{}
		for _, k := range y.x.Below(i) {
			is[k]++
		}
		for _, kid := range y.x.Kids(i) {
			if slices.Contains(y.x.Below(kid), i) {
				y.t.Fatalf("%d is below its kid %d", i, kid)
			}
		}
		if len(is) != len(y.x.Below(i)) {
			y.t.Fatalf("below %d some are twice", i)
		}
		below = append(below, is)
	}
	for i, is := range below {
		for k, others := range below[:i] {
			for both := range is {
				if others[both] > 0 && is[k] == 0 && others[i] == 0 {
					y.t.Fatalf("%d is below %d and %d", both, i, k)
				}
			}
		}
	}
}

// moves are calls of short scripts.
func moves() []func(y pair) api.Errno {
	node := func(rule, sym int, kids ...int) func(y pair) api.Errno {
		return func(y pair) api.Errno { return y.node(rule, sym, kids...) }
	}
	return []func(y pair) api.Errno{
		func(y pair) api.Errno { return y.leaf(token(a, 5)) },
		func(y pair) api.Errno { return y.leaf(token(0, 6)) },
		node(2, S), node(3, T, 0), node(-1, T, 1), node(4, S, 0, 1), node(4, S, 1, 0), node(1, S, 2, 1),
		node(1, S, 0, 0), node(5, S, 0, -1, 3), node(6, T, 2, 3),
		func(y pair) api.Errno { y.reset(); return api.OK },
	}
}

// P18.1 to P18.4: all short scripts, of meters of few cells.
func TestModelOfShortOnes(t *testing.T) {
	p := plan(t, "S : T S | ; T : a ; S : a S | S S T | ;")
	calls := moves()
	counts := map[api.Errno]int{}
	rightRoots := 0
	for limit := range 10 {
		length := 4
		if limit == 9 {
			length = 5
		}
		total := 1
		for range length {
			total *= len(calls)
		}
		for number := range total {
			y := start(t, p, limit)
			for range length {
				counts[calls[number%len(calls)](y)]++
				number /= len(calls)
			}
			y.same()
			y.apart()
			if n := y.x.Len(); n > 2 && y.x.Right(p, n-1) && len(y.x.Below(n-1)) > 2 {
				rightRoots++
			}
		}
	}
	if min(counts[api.OK], counts[api.ErrRange], counts[api.ErrTwice], counts[api.ErrQuota]) < 10000 || rightRoots < 100 || len(counts) != 4 {
		t.Errorf("calls come to %d, just %d trees are right", counts, rightRoots)
	}
}

// free is the number of a thing by chance that nothing stands above, of a symbol; -1, if there is none.
func (m *model) free(r *rand.Rand, sym int, but []int) int {
	var l []int
	for i, x := range m.things {
		if x.above == nil && x.sym == sym && !slices.Contains(but, i) {
			l = append(l, i)
		}
	}
	if len(l) == 0 {
		return -1
	}
	return l[r.Intn(len(l))]
}

// grow makes a node of a rule by chance, above such that are free, or a leaf where one is wanting; now and then something of it is another one than the rule's.
func grow(r *rand.Rand, y pair) api.Errno {
	rule := 1 + r.Intn(len(y.p.Rules)-1)
	sym := y.p.Rules[rule].Left
	var kids []int
	for _, s := range y.p.Rules[rule].Right {
		if kid := y.want.free(r, s, kids); kid >= 0 {
			kids = append(kids, kid)
		} else if names.Term(y.p, s) {
			return y.leaf(token(s, y.x.Len()))
		} else if r.Intn(20) > 0 {
			return y.leaf(token(a, y.x.Len()))
		}
	}
	switch r.Intn(120) {
	case 0:
		rule = r.Intn(len(y.p.Rules)+2) - 1
	case 1:
		sym = r.Intn(names.Accept(y.p)+3) - 1
	case 2:
		kids = append(kids, r.Intn(y.x.Len()+3)-1)
	case 3:
		kids = kids[:len(kids)/2]
	case 4:
		slices.Reverse(kids)
	case 5:
		return y.leaf(token(r.Intn(names.Accept(y.p)+3)-1, 7))
	}
	return y.node(rule, sym, kids...)
}

// P18.1 to P18.4: trees by chance, of several plans, most of them as their rules have it.
func TestModelByChance(t *testing.T) {
	r := rand.New(rand.NewSource(18))
	counts := map[api.Errno]int{}
	right, wrong := 0, 0
	for i := range 3000 {
		p := plan(t, []string{"S : T b S | ; T : a ;", "S : S S | a | b S c ;", "S : T | ; T : S ; T : a b c ;", "S : a S b | T ; T : c T | ;"}[i%4])
		limit := []int{60, 200, 1000}[i%3]
		y := start(t, p, limit)
		for k := range 80 {
			counts[grow(r, y)]++
			if k == 40 && i%5 == 0 {
				y.reset()
			}
		}
		y.same()
		y.apart()
		for n := range y.x.Len() {
			if len(y.x.Below(n)) < 8 {
				continue
			}
			if y.x.Right(p, n) {
				right++
			} else {
				wrong++
			}
		}
	}
	if min(counts[api.OK], counts[api.ErrRange], counts[api.ErrTwice], counts[api.ErrQuota]) < 100 || right < 5000 || wrong < 2000 || len(counts) != 4 {
		t.Errorf("calls come to %d, %d trees are right, %d wrong", counts, right, wrong)
	}
}

// derived makes a tree of a symbol by rules by chance, from the left on, and tells its root, and the tokens that it is of.
func derived(r *rand.Rand, x trial, p api.Plan, sym, depth int) (int, []api.Tok) {
	x.t.Helper()
	n := x.Len()
	if names.Term(p, sym) {
		x.leaf(n, token(sym, n))
		return n, []api.Tok{token(sym, n)}
	}
	var rules []int
	for i, rule := range p.Rules {
		if rule.Left == sym && (len(rules) == 0 || depth > 0 || len(rule.Right) <= 1) {
			rules = append(rules, i)
		}
	}
	rule := rules[r.Intn(len(rules))]
	var kids []int
	var toks []api.Tok
	for _, s := range p.Rules[rule].Right {
		kid, l := derived(r, x, p, s, depth-1)
		kids, toks = append(kids, kid), append(toks, l...)
	}
	n = x.Len()
	x.node(n, rule, sym, kids...)
	return n, toks
}

// P18.2, P18.3: each tree that is made as rules derive it is right, its yield is the tokens, and it is right by no plan that lacks a rule of it.
func TestDerivations(t *testing.T) {
	r := rand.New(rand.NewSource(3))
	large := 0
	for i := range 5000 {
		p := plan(t, []string{"S : T b S | ; T : a | c S c ;", "S : S S | a | b S c | ;", "S : a S b | T ; T : c T | ;"}[i%3])
		x := of(t, 1<<20)
		root, toks := derived(r, x, p, S, 1+i%8)
		if !x.Right(p, root) || root != x.Len()-1 || len(x.Below(root)) != x.Len() {
			t.Fatal(x.Show(p, root))
		}
		x.yields(root, toks...)
		if x.Len() > 20 {
			large++
		}
		less := p
		k := 1 + r.Intn(len(p.Rules)-1)
		less.Rules = slices.Clone(p.Rules)
		less.Rules[k].Left = names.Accept(p)
		used := slices.ContainsFunc(x.Below(root), func(n int) bool { return x.Rule(n) == k })
		if x.Right(less, root) == used {
			t.Fatal(x.Show(p, root), k)
		}
	}
	if large < 200 {
		t.Errorf("just %d trees are large", large)
	}
}
