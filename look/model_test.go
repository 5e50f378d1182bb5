package look_test

import (
	"cmp"
	"fmt"
	"maps"
	"math"
	"math/rand"
	"slices"
	"strings"
	"testing"

	"tronage/api"
	"tronage/check"
	"tronage/first"
	"tronage/look"
	"tronage/names"
	"tronage/states"
)

// The model has the canonical states, as the chapter's words tell them: sets of items with a look each, which are closed by going through all rules until nothing comes in any more. What symbols begin with it tells by sets of its own. Merged, they are held against what is told of the automaton's states.

// item is one with a look.
type item struct{ rule, dot, look int }

func order(a, b item) int {
	return cmp.Or(a.rule-b.rule, a.dot-b.dot, a.look-b.look)
}

// set is some items.
type set map[item]bool

// model is a plan, and of each symbol the terminals that it begins with; nothing stands for a sentence without any.
type model struct {
	api.Plan
	begins []map[int]bool
}

const nothing = -1

// modelled is a plan's model.
func modelled(p api.Plan) model {
	m := model{p, make([]map[int]bool, len(p.Terms)+len(p.Vars)+1)}
	for sym := range m.begins {
		m.begins[sym] = map[int]bool{}
		if sym < len(p.Terms) {
			m.begins[sym][sym] = true
		}
	}
	for had := -1; had < m.known(); {
		had = m.known()
		for _, r := range p.Rules {
			for term := range m.opens(r.Right, nothing) {
				m.begins[r.Left][term] = true
			}
		}
	}
	return m
}

// known is how many things all symbols are known to begin with.
func (m model) known() int {
	n := 0
	for _, s := range m.begins {
		n += len(s)
	}
	return n
}

// opens is what some symbols begin with, and a look behind them.
func (m model) opens(seq []int, look int) map[int]bool {
	if len(seq) == 0 {
		return map[int]bool{look: true}
	}
	s := maps.Clone(m.begins[seq[0]])
	if s[nothing] {
		delete(s, nothing)
		maps.Copy(s, m.opens(seq[1:], look))
	}
	return s
}

// closed is a set's closure.
func (m model) closed(s set) set {
	s = maps.Clone(s)
	l := slices.Collect(maps.Keys(s))
	for len(l) > 0 {
		i := l[0]
		l = l[1:]
		right := m.Rules[i.rule].Right[i.dot:]
		for rule, r := range m.Rules {
			if len(right) == 0 || r.Left != right[0] {
				continue
			}
			for term := range m.opens(right[1:], i.look) {
				if next := (item{rule, 0, term}); !s[next] {
					s[next] = true
					l = append(l, next)
				}
			}
		}
	}
	return s
}

// on is the closure of the items of a set that have a symbol behind the dot, with the dot one further on.
func (m model) on(s set, sym int) set {
	next := set{}
	for i := range s {
		if slices.Index(m.Rules[i.rule].Right[i.dot:], sym) == 0 {
			next[item{i.rule, i.dot + 1, i.look}] = true
		}
	}
	return m.closed(next)
}

// key is a set as a text.
func key(s set) string {
	return fmt.Sprint(slices.SortedFunc(maps.Keys(s), order))
}

// core is a set's items without looks, as a text.
func core(s set) string {
	var l []api.Item
	for _, i := range slices.SortedFunc(maps.Keys(s), order) {
		if x := (api.Item{Rule: i.rule, Dot: i.dot}); len(l) == 0 || l[len(l)-1] != x {
			l = append(l, x)
		}
	}
	return fmt.Sprint(l)
}

// canonical are all canonical states, or just some of them, but more than so many.
func (m model) canonical(most int) []set {
	l := []set{m.closed(set{{}: true})}
	known := map[string]bool{key(l[0]): true}
	for i := 0; i < len(l) && len(l) <= most; i++ {
		for sym := range m.begins {
			next := m.on(l[i], sym)
			if k := key(next); len(next) > 0 && !known[k] {
				known[k] = true
				l = append(l, next)
			}
		}
	}
	return l
}

// most is how many canonical states a plan may have that is held against the model.
const most = 200

// spot is a state, and a rule.
type spot struct{ state, rule int }

// counted is how many plans, and how many of some kinds, a test has held against the model.
type counted struct{ plans, large, void, merged, finer, ways, clash int }

// merge are the looks of all canonical states, put together by the automaton's states.
func (n *counted) merge(t *testing.T, m model, a *states.Auto, all []set) map[spot]map[int]bool {
	t.Helper()
	known := map[string]int{}
	for state := range a.Len() {
		known[fmt.Sprint(a.Items(state))] = state
	}
	looks, merged, met := map[spot]map[int]bool{}, false, map[int]bool{}
	for _, s := range all {
		state, is := known[core(s)]
		if !is {
			t.Fatalf("of %v a canonical state has %s, and no state has", m.Rules, core(s))
		}
		ends := 0
		for i := range s {
			if i.dot < len(m.Rules[i.rule].Right) {
				continue
			}
			ends++
			at := spot{state, i.rule}
			if looks[at] == nil {
				looks[at] = map[int]bool{}
			}
			looks[at][i.look] = true
		}
		merged = merged || met[state] && ends > 0
		met[state] = true
	}
	if len(met) != a.Len() {
		t.Fatalf("of %v %d states of %d have canonical ones", m.Rules, len(met), a.Len())
	}
	if merged {
		n.merged++
	}
	return looks
}

// ways are where one goes on, when a rule is done in a state, by all states one by one.
func ways(p api.Plan, a *states.Auto, at spot) []api.Edge {
	var l []api.Edge
	r := p.Rules[at.rule]
	for from := range a.Len() {
		to := from
		for _, sym := range r.Right {
			to = a.Go(to, sym)
		}
		for _, e := range a.Edges(from) {
			if to == at.state && e.Sym == r.Left {
				l = append(l, e)
			}
		}
	}
	return l
}

// kinds are which kinds of rules are done in a plan's states.
type kinds struct{ void, finer, ways, clash bool }

// add holds a plan against the model.
func (n *counted) add(t *testing.T, p api.Plan) {
	t.Helper()
	m := modelled(p)
	all := m.canonical(most)
	if len(all) > most {
		n.large++
		return
	}
	n.plans++
	a := built(t, p)
	l, want, f, k := look.Of(p, a), n.merge(t, m, a, all), first.Of(p), &kinds{}
	for state := -1; state <= a.Len(); state++ {
		var done []int
		items := a.Items(state)
		for rule := -1; rule <= len(p.Rules); rule++ {
			if rule < 0 || rule == len(p.Rules) || !slices.Contains(items, api.Item{Rule: rule, Dot: len(p.Rules[rule].Right)}) {
				untold(t, l, state, rule)
				continue
			}
			done = append(done, rule)
			k.holds(t, p, a, l, spot{state, rule}, slices.Sorted(maps.Keys(want[spot{state, rule}])))
			k.finer = follows(t, p, f, rule, l.At(state, rule)) || k.finer
		}
		if got := l.Done(state); !slices.Equal(got, done) {
			t.Fatalf("of %v in %d Done tells %v, want %v", p.Rules, state, got, done)
		}
		k.clash = k.clash || len(done) > 1
	}
	n.count(k)
}

// count counts a plan by its kinds.
func (n *counted) count(k *kinds) {
	one := func(n *int, is bool) {
		if is {
			*n++
		}
	}
	one(&n.void, k.void)
	one(&n.finer, k.finer)
	one(&n.ways, k.ways)
	one(&n.clash, k.clash)
}

// holds fails the test if of a rule that is done in a state other looks are told, or other ways.
func (k *kinds) holds(t *testing.T, p api.Plan, a *states.Auto, l *look.Looks, at spot, want []int) {
	t.Helper()
	if looks := l.At(at.state, at.rule); !slices.Equal(looks, want) {
		t.Fatalf("of %v in %d the rule %d has the looks %v, want %v", p.Rules, at.state, at.rule, looks, want)
	}
	goOn, wantWays := l.Ways(at.state, at.rule), ways(p, a, at)
	if !slices.Equal(goOn, wantWays) {
		t.Fatalf("of %v in %d the rule %d has the ways %v, want %v", p.Rules, at.state, at.rule, goOn, wantWays)
	}
	k.void = k.void || len(p.Rules[at.rule].Right) == 0
	k.ways = k.ways || len(goOn) > 2
}

// P13.3: follows fails the test if what is said to follow does not; it tells whether a rule has not all looks that come behind its Left somewhere.
func follows(t *testing.T, p api.Plan, f first.Facts, rule int, looks []int) bool {
	t.Helper()
	follow := f.Follow[p.Rules[rule].Left-len(p.Terms)]
	for _, term := range looks {
		if !slices.Contains(follow, term) {
			t.Fatalf("of %v the rule %d has the look %d, and its Follow is %v", p.Rules, rule, term, follow)
		}
	}
	if len(looks) == 0 || rule == 0 && !slices.Equal(looks, []int{0}) {
		t.Fatalf("of %v the rule %d has the looks %v", p.Rules, rule, looks)
	}
	return len(looks) < len(follow)
}

func (n *counted) enough(t *testing.T, least int) {
	t.Helper()
	if min(n.plans, n.void, n.merged, n.finer, n.ways, n.clash) < least {
		t.Errorf("just %+v plans", *n)
	}
}

// planned is the plan of some rules, if they are a grammar's of which Check tells nothing.
func planned(start string, l ...api.Rule) (api.Plan, bool) {
	g := api.Grammar{Start: start, Rules: l}
	for _, name := range []string{"a", "b", "c"} {
		g.Tokens = append(g.Tokens, api.Token{Name: name, Pat: api.Pat{Text: name}})
	}
	p, e, _ := names.Of(g)
	if e != api.OK {
		return p, false
	}
	_, e = check.Check(p)
	return p, e == api.OK
}

// rules are all rules of some Lefts, whose Right has up to two of some symbols.
func rules(lefts, symbols []string) []api.Rule {
	var all []api.Rule
	for _, left := range lefts {
		all = append(all, api.Rule{Left: left})
		for _, x := range symbols {
			all = append(all, api.Rule{Left: left, Right: []string{x}})
			for _, y := range symbols {
				all = append(all, api.Rule{Left: left, Right: []string{x, y}})
			}
		}
	}
	return all
}

// P13.1, P13.2, P13.3: all grammars of one rule, and of two, of two variables and two tokens; of three, of one token. A rule's Right has up to two symbols.
func TestModelOfShortGrammars(t *testing.T) {
	n := &counted{}
	add := func(l ...api.Rule) {
		if p, is := planned("S", l...); is {
			n.add(t, p)
		}
	}
	lefts := []string{"S", "T"}
	all := rules(lefts, []string{"a", "b", "S", "T"})
	for _, x := range all {
		add(x)
		for _, y := range all {
			add(x, y)
		}
	}
	all = rules(lefts, []string{"a", "S", "T"})
	for _, x := range all {
		for _, y := range all {
			for _, z := range all {
				add(x, y, z)
			}
		}
	}
	n.enough(t, 200)
}

// mixed are rules by chance of some variables, of which each has one at least.
func mixed(r *rand.Rand, vars []string, wide, terms int) []api.Rule {
	var l []api.Rule
	for i := range min(api.MaxRules, len(vars)+1+r.Intn(2*len(vars))) {
		rule := api.Rule{Left: vars[i%len(vars)]}
		for range r.Intn(1 + wide) {
			name := vars[r.Intn(len(vars))]
			if r.Intn(10) < terms {
				name = []string{"a", "b", "c"}[r.Intn(3)]
			}
			rule.Right = append(rule.Right, name)
		}
		l = append(l, rule)
	}
	r.Shuffle(len(l), func(i, j int) { l[i], l[j] = l[j], l[i] })
	return l
}

// useful are those of some rules whose symbols all are among some.
func useful(p api.Plan, l []api.Rule, symbols []int) []api.Rule {
	return slices.DeleteFunc(slices.Clone(l), func(r api.Rule) bool {
		return slices.ContainsFunc(append([]string{r.Left}, r.Right...), func(name string) bool {
			sym := names.Sym(p, name)
			return !names.Term(p, sym) && !slices.Contains(symbols, sym)
		})
	})
}

// reduced is the plan of those of some rules that make a sentence, and are come to, if there are any.
func reduced(start string, l []api.Rule) (api.Plan, bool) {
	p, is := planned(start, l...)
	if !is && len(p.Rules) > 0 {
		l = useful(p, l, check.Productive(p))
		if p, is = planned(start, l...); !is && len(p.Rules) > 0 {
			p, is = planned(start, useful(p, l, check.Reachable(p))...)
		}
	}
	return p, is
}

// P13.1, P13.2, P13.3: grammars by chance, of up to so many rules and symbols as may be.
func TestModelByChance(t *testing.T) {
	r := rand.New(rand.NewSource(13))
	n := &counted{}
	all := strings.Split("ABCDEFGHIJKLMNOPQRSTUVWXYZdefghijklmnopq", "")
	for i := range 6000 {
		vars, wide := all[:1+r.Intn(6)], 1+r.Intn(4)
		switch i % 8 {
		case 0:
			vars = all[:1+r.Intn(len(all))]
		case 1:
			wide = api.MaxRight
		}
		if p, is := reduced(vars[0], mixed(r, vars, wide, 3+r.Intn(7))); is {
			n.add(t, p)
		}
	}
	n.enough(t, 300)
	if n.large < 20 {
		t.Errorf("just %d plans were too large", n.large)
	}
}

// R1: of a plan that no grammar has nothing is promised, nor of another plan's automaton, but that each call ends.
func TestWrongPlans(t *testing.T) {
	r := rand.New(rand.NewSource(14))
	odd := func() int {
		if r.Intn(9) == 0 {
			return far[r.Intn(len(far))]
		}
		return r.Intn(12) - 1
	}
	some := func(n int) []int {
		var l []int
		for range r.Intn(n) {
			l = append(l, odd())
		}
		return l
	}
	ask := func(p api.Plan, a *states.Auto) {
		l := look.Of(p, a)
		askAll(t, l, a.Len(), len(p.Rules))
		for range 10 {
			l.Done(odd())
			l.At(odd(), odd())
			l.Ways(odd(), odd())
		}
	}
	before, _ := states.Build(api.Plan{}, 1, 1)
	for i := range 3000 {
		p := api.Plan{Terms: make([]string, r.Intn(4)), Vars: make([]string, r.Intn(8))}
		if i%300 == 0 {
			p.Terms = make([]string, api.MaxBits+r.Intn(3))
		}
		for range r.Intn(12) {
			p.Rules = append(p.Rules, api.Prod{Left: odd(), Right: some(5)})
		}
		ask(p, before)
		if a, e := states.Build(p, 100, 1000); e == api.OK {
			ask(p, a)
			before = a
		}
	}
	ask(api.Plan{}, before)
	ask(api.Plan{Rules: []api.Prod{{}}}, before)
	ask(api.Plan{Rules: []api.Prod{{Left: math.MinInt, Right: []int{math.MaxInt}}}}, before)
}
