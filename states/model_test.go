package states_test

import (
	"maps"
	"math"
	"math/rand"
	"slices"
	"strings"
	"testing"

	"tronage/api"
	"tronage/names"
	"tronage/states"
)

// The model has items in sets without order, which it closes by going through all rules until nothing comes in any more; kernels are held against each other one by one; and each state keeps its path whole.

// set is some items.
type set map[api.Item]bool

// list is a set in order.
func (s set) list() []api.Item {
	return slices.SortedFunc(maps.Keys(s), func(a, b api.Item) int { return 100*(a.Rule-b.Rule) + a.Dot - b.Dot })
}

// model is a plan.
type model struct{ api.Plan }

// on are the items of a set that have a symbol behind the dot, with the dot one further on.
func (m model) on(s set, sym int) set {
	next := set{}
	for i := range s {
		if right := m.Rules[i.Rule].Right; slices.Index(right[i.Dot:], sym) == 0 {
			next[api.Item{Rule: i.Rule, Dot: i.Dot + 1}] = true
		}
	}
	return next
}

// closed is a set's closure.
func (m model) closed(s set) set {
	s = maps.Clone(s)
	for had := -1; had < len(s); {
		had = len(s)
		for rule, r := range m.Rules {
			if len(m.on(s, r.Left)) > 0 {
				s[api.Item{Rule: rule}] = true
			}
		}
	}
	return s
}

// place is a state of the model.
type place struct {
	kernel, items set
	edges         []api.Edge
	path          []int
}

// places are all states, or just the first so many of them, of which some then lack edges.
func (m model) places(most int) []place {
	start := set{{}: true}
	l := []place{{kernel: start, items: m.closed(start)}}
	for from := 0; from < len(l) && len(l) <= most; from++ {
		for sym := range len(m.Terms) + len(m.Vars) + 1 {
			kernel := m.on(l[from].items, sym)
			if len(kernel) == 0 {
				continue
			}
			to := slices.IndexFunc(l, func(x place) bool { return maps.Equal(x.kernel, kernel) })
			if to < 0 {
				to = len(l)
				l = append(l, place{kernel, m.closed(kernel), nil, append(slices.Clone(l[from].path), sym)})
			}
			l[from].edges = append(l[from].edges, api.Edge{Sym: sym, To: to})
		}
	}
	return l
}

// most is how many states a plan may have that is held against the model.
const most = 100

// agrees fails the test if a plan's automaton is not the model's; it tells whether there was one that is not too large.
func agrees(t *testing.T, p api.Plan) (*states.Auto, bool) {
	t.Helper()
	m := model{p}
	want, total := m.places(most), 0
	a, e := states.Build(p, most, api.MaxCount)
	if len(want) > most {
		if a != nil || e != api.ErrQuota {
			t.Fatalf("of %v Build tells %v, %d, and there are more than %d states", p, a, e, most)
		}
		return nil, false
	}
	if e != api.OK || a.Len() != len(want) {
		t.Fatalf("of %v Build tells %d, and there are %d states", p, e, len(want))
	}
	for n, x := range want {
		total += len(x.items)
		if !slices.Equal(a.Kernel(n), x.kernel.list()) || !slices.Equal(a.Items(n), x.items.list()) || !slices.Equal(a.Edges(n), x.edges) || !slices.Equal(a.Path(n), x.path) {
			t.Fatalf("of %v the state %d has %v, %v, %v, %v, want %v", p, n, a.Kernel(n), a.Items(n), a.Edges(n), a.Path(n), x)
		}
	}
	if a.Total() != total {
		t.Fatalf("of %v there are %d items, want %d", p, a.Total(), total)
	}
	bounds(t, p, a)
	follows(t, p, a)
	return a, true
}

// bounds fails the test if another limit than just as many states and items as there are is the least that is enough.
func bounds(t *testing.T, p api.Plan, a *states.Auto) {
	t.Helper()
	for _, x := range []struct {
		states, items int
		want          api.Errno
	}{{0, 0, api.OK}, {-1, 0, api.ErrQuota}, {0, -1, api.ErrQuota}, {-1, -1, api.ErrQuota}} {
		b, e := states.Build(p, a.Len()+x.states, a.Total()+x.items)
		if e != x.want || (b == nil) != (e != api.OK) {
			t.Fatalf("of %v, with %d states and %d items, of which there are %d and %d, Build tells %d", p, a.Len()+x.states, a.Total()+x.items, a.Len(), a.Total(), e)
		}
	}
}

// P11.4: follows fails the test if what is said to follow does not.
func follows(t *testing.T, p api.Plan, a *states.Auto) {
	t.Helper()
	enters := make([]int, a.Len()) // one more than the symbol
	for n := range a.Len() {
		for o := range n {
			if slices.Equal(a.Kernel(n), a.Kernel(o)) {
				t.Fatalf("of %v the states %d and %d have the same kernel", p, n, o)
			}
		}
		for _, e := range a.Edges(n) {
			if had := enters[e.To]; had > 0 && had != e.Sym+1 {
				t.Fatalf("of %v the state %d is entered with %d, and with %d", p, e.To, had-1, e.Sym)
			}
			enters[e.To] = e.Sym + 1
		}
		path := a.Path(n)
		if to := a.Walk(0, path); to != n {
			t.Fatalf("of %v by %v one comes to %d, not to %d", p, path, to, n)
		}
		if enters[n] > 0 && (len(path) == 0 || path[len(path)-1] != enters[n]-1) {
			t.Fatalf("of %v the path of %d is %v, and it is entered with %d", p, n, path, enters[n]-1)
		}
	}
}

// walks fails the test if Walk, and Go, tell another state than that which has the items that come of a state's by some symbols.
func walks(t *testing.T, p api.Plan, a *states.Auto, from int, seq []int) {
	t.Helper()
	m, s, at := model{p}, set{}, from
	for _, i := range a.Items(from) {
		s[i] = true
	}
	for _, sym := range seq {
		s = m.closed(m.on(s, sym))
		at = a.Go(at, sym)
	}
	to := a.Walk(from, seq)
	if to != at || to < -1 || to >= a.Len() || (to < 0) != (len(s) == 0) || !slices.Equal(a.Items(to), s.list()) {
		t.Fatalf("of %v from %d by %v one comes to %d, and to %d symbol by symbol, want the state of %v", p, from, seq, to, at, s.list())
	}
}

// counted is how many plans, and how many of some kinds, a test has held against the model.
type counted struct{ plans, large, void, again, long int }

// add holds the plan of a grammar, if it has one, against the model.
func (n *counted) add(t *testing.T, start string, l ...api.Rule) (api.Plan, *states.Auto, bool) {
	t.Helper()
	g := api.Grammar{Start: start, Rules: l}
	for _, name := range []string{"a", "b", "c"} {
		g.Tokens = append(g.Tokens, api.Token{Name: name, Pat: api.Pat{Text: name}})
	}
	p, e, _ := names.Of(g)
	if e != api.OK {
		return p, nil, false
	}
	a, is := agrees(t, p)
	if !is {
		n.large++
		return p, nil, false
	}
	n.plans++
	edges := 0
	for state := range a.Len() {
		edges += len(a.Edges(state))
	}
	if slices.ContainsFunc(p.Rules, func(r api.Prod) bool { return len(r.Right) == 0 }) {
		n.void++
	}
	if edges >= a.Len() { // a state is gone to by two
		n.again++
	}
	if a.Len() > 6 {
		n.long++
	}
	return p, a, true
}

func (n *counted) enough(t *testing.T, least int) {
	t.Helper()
	if min(n.plans, n.void, n.again, n.long) < least {
		t.Errorf("just %v plans", *n)
	}
}

// rules are all rules of some Lefts, whose Right has up to two of some symbols.
func rules(lefts, symbols []string) []api.Rule {
	var all []api.Rule
	for _, left := range lefts {
		all = append(all, api.Rule{Left: left})
		for _, x := range symbols {
			all = append(all, api.Rule{Left: left, Right: []string{x}})
			for _, y := range symbols {
				all = append(all, api.Rule{Left: left, Right: []string{x, y}})
			}
		}
	}
	return all
}

// P11.1 to P11.4: all grammars of one rule, and of two, of two variables and two tokens; of three, of one token. A rule's Right has up to two symbols.
func TestModelOfShortGrammars(t *testing.T) {
	n := &counted{}
	lefts := []string{"S", "T"}
	for _, start := range lefts {
		all := rules(lefts, []string{"a", "b", "S", "T"})
		for _, x := range all {
			n.add(t, start, x)
			for _, y := range all {
				n.add(t, start, x, y)
			}
		}
	}
	all := rules(lefts, []string{"a", "S", "T"})
	for _, x := range all {
		for _, y := range all {
			for _, z := range all {
				n.add(t, "S", x, y, z)
			}
		}
	}
	n.enough(t, 500)
}

// mixed are rules by chance of some variables, of which each has one at least.
func mixed(r *rand.Rand, vars []string, wide, terms int) []api.Rule {
	var l []api.Rule
	for i := range min(api.MaxRules, len(vars)+r.Intn(2*len(vars))) {
		rule := api.Rule{Left: vars[i%len(vars)]}
		for range r.Intn(1 + wide) {
			name := vars[r.Intn(len(vars))]
			if r.Intn(10) < terms {
				name = []string{"a", "b", "c"}[r.Intn(3)]
			}
			rule.Right = append(rule.Right, name)
		}
		l = append(l, rule)
	}
	r.Shuffle(len(l), func(i, j int) { l[i], l[j] = l[j], l[i] })
	return l
}

// P11.1 to P11.4: grammars by chance, of up to so many rules and symbols as may be, and walks by chance and along edges.
func TestModelByChance(t *testing.T) {
	r := rand.New(rand.NewSource(11))
	n := &counted{}
	all := strings.Split("ABCDEFGHIJKLMNOPQRSTUVWXYZdefghijklmnopq", "")
	for i := range 1500 {
		vars := all[:1+r.Intn(5)]
		if i%3 == 0 {
			vars = all[:1+r.Intn(len(all))]
		}
		p, a, is := n.add(t, vars[r.Intn(len(vars))], mixed(r, vars, 1+r.Intn(api.MaxRight), 2+r.Intn(8))...)
		if !is {
			continue
		}
		for range 10 {
			from := r.Intn(a.Len())
			var seq []int
			for at := from; r.Intn(9) > 0; {
				sym := r.Intn(len(p.Terms) + len(p.Vars) + 1)
				if l := a.Edges(at); len(l) > 0 && r.Intn(9) > 0 {
					e := l[r.Intn(len(l))]
					sym, at = e.Sym, e.To
				}
				seq = append(seq, sym)
			}
			walks(t, p, a, from, seq)
		}
	}
	n.enough(t, 50)
	if n.large < 20 {
		t.Errorf("just %d plans were too large", n.large)
	}
}

// R1: of a plan that no grammar has nothing is promised, but that each call ends.
func TestWrongPlans(t *testing.T) {
	r := rand.New(rand.NewSource(12))
	odd := func() int {
		if far := []int{math.MinInt, -1 << 40, -1, 64, 999, 1000, 1 << 40, math.MaxInt}; r.Intn(9) == 0 {
			return far[r.Intn(len(far))]
		}
		return r.Intn(12) - 1
	}
	some := func(n int) []int {
		var l []int
		for range r.Intn(n) {
			l = append(l, odd())
		}
		return l
	}
	ask := func(p api.Plan, most, items int) {
		a, e := states.Build(p, most, items)
		if (a == nil) != (e != api.OK) {
			t.Fatalf("of %v Build tells %v, %d", p, a, e)
		}
		if a == nil {
			return
		}
		for range 10 {
			n := odd()
			a.Kernel(n)
			a.Items(n)
			a.Edges(n)
			a.Path(n)
			a.Go(n, odd())
			a.Walk(n, some(6))
		}
		for n := range a.Len() {
			if to := a.Walk(0, a.Path(n)); to != n {
				t.Fatalf("of %v by %v one comes to %d, not to %d", p, a.Path(n), to, n)
			}
		}
	}
	for range 5000 {
		p := api.Plan{Terms: make([]string, r.Intn(4)), Vars: make([]string, r.Intn(8))}
		for range r.Intn(12) {
			p.Rules = append(p.Rules, api.Prod{Left: odd(), Right: some(5)})
		}
		ask(p, 100, 1000)
		ask(p, odd(), odd())
	}
	ask(api.Plan{}, api.MaxCount, api.MaxCount)
	ask(api.Plan{Rules: []api.Prod{{}}}, api.MaxCount, api.MaxCount)
	ask(api.Plan{Terms: []string{"$end"}, Vars: []string{"S"}, Rules: []api.Prod{{Left: 1, Right: slices.Repeat([]int{1, 0, 2}, 1000)}, {Left: 2, Right: []int{2, 1}}}}, 10000, 100000)
}
