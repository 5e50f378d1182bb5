package engine_test

import (
	"fmt"
	"math/rand"
	"slices"
	"strings"
	"testing"

	"tronage/api"
	"tronage/check"
	"tronage/engine"
	"tronage/meter"
	"tronage/names"
	"tronage/resolve"
	"tronage/states"
)

// The model lays its stack anew for each step, as lists of states and of nodes, and has nodes as texts of all that is told of them.

// model is what the chapter tells of a machine.
type model struct {
	p             api.Plan
	g             *resolve.Grid
	bound, cells  int
	toks          []api.Tok
	at            int
	states, nodes []int
	shifted       []int
	made          []string
	used          int
	steps, most   int
	came          api.Outcome
}

// modelOf is the model of a machine that did nothing yet.
func modelOf(x grammar, toks []api.Tok, depth, cells int) *model {
	end := slices.IndexFunc(toks, func(x api.Tok) bool { return x.Term == 0 })
	if end >= 0 {
		toks = toks[:end]
	}
	return &model{p: x.p, g: x.g, bound: max(0, depth), cells: cells, toks: toks, states: []int{0}, shifted: []int{0}}
}

// term is the terminal that is next.
func (m *model) term() int {
	if m.at == len(m.toks) {
		return 0
	}
	return m.toks[m.at].Term
}

// make makes a node, if there are cells for it.
func (m *model) make(cells int, node string) bool {
	if m.used+cells > m.cells {
		return false
	}
	m.used += cells
	m.made = append(m.made, node)
	return true
}

// step does a step.
func (m *model) step() bool {
	if m.came.Kind != api.RunGoes {
		return true
	}
	m.steps++
	x := m.g.At(m.states[len(m.nodes)], m.term())
	enough := true
	switch x.Kind {
	case api.ActShift:
		tok := m.toks[m.at]
		enough = len(m.nodes)+1 <= m.bound && m.make(1, fmt.Sprintln("leaf", tok))
		if enough {
			m.states, m.nodes = append(m.states, x.N), append(m.nodes, len(m.made)-1)
			m.shifted = slices.Clone(m.states)
			m.at++
		}
	case api.ActReduce:
		r := m.p.Rules[x.N]
		n := len(m.nodes) - len(r.Right)
		enough = n+1 <= m.bound && m.make(1+len(r.Right), fmt.Sprintln(x.N, r.Left, m.nodes[n:]))
		if enough {
			m.states, m.nodes = append(m.states[:n+1], m.g.Go(m.states[n], r.Left)), append(m.nodes[:n:n], len(m.made)-1)
		}
	case api.ActAccept:
		m.came = api.Outcome{Kind: api.RunTree, Root: m.nodes[len(m.nodes)-1]}
	default:
		m.came = api.Outcome{Kind: api.RunReject, At: m.at, Expected: going(m.p, m.g, m.shifted, m.bound)}
	}
	if !enough {
		m.came = api.Outcome{Kind: api.RunQuota}
	}
	m.most = max(m.most, len(m.nodes))
	return m.came.Kind != api.RunGoes
}

// going are the terminals with which one goes on from a stack.
func going(p api.Plan, g *resolve.Grid, stack []int, most int) []int {
	var l []int
	for term := range p.Terms {
		if goes(p, g, slices.Clone(stack), term, most, 1000) {
			l = append(l, term)
		}
	}
	return l
}

// goes tells whether one goes on from a stack with a terminal, by so many reductions at most.
func goes(p api.Plan, g *resolve.Grid, stack []int, term, most, left int) bool {
	if len(stack) == 0 {
		return false
	}
	x := g.At(stack[len(stack)-1], term)
	if x.Kind == api.ActShift {
		return len(stack) <= most
	}
	if x.Kind != api.ActReduce || left == 0 {
		return x.Kind == api.ActAccept
	}
	n := len(stack) - len(p.Rules[x.N].Right)
	if n <= 0 || n > most {
		return false
	}
	return goes(p, g, append(stack[:n], g.Go(stack[n-1], p.Rules[x.N].Left)), term, most, left-1)
}

// told is all that a model tells, but its nodes.
func (m *model) told() string {
	return fmt.Sprintln(m.came, m.steps, len(m.nodes), m.most, len(m.made), m.used, m.used)
}

// told is all that a machine tells, but its nodes.
func (y trial) told() string {
	return fmt.Sprintln(y.Outcome(), y.Steps(), y.Depth(), y.Most(), y.Tree().Len(), y.Tree().Cells(), y.m.Used())
}

// nodes are all nodes of a machine, as a model has them.
func (y trial) nodes() []string {
	var l []string
	w := y.Tree()
	for i := range w.Len() {
		if w.IsLeaf(i) {
			l = append(l, fmt.Sprintln("leaf", w.Tok(i)))
		} else {
			l = append(l, fmt.Sprintln(w.Rule(i), w.Sym(i), w.Kids(i)))
		}
	}
	return l
}

// counts is how many machines came to what, of all that were held against the model.
type counts struct {
	kinds              [4]int
	long, many, behind int
}

// run holds a machine against the model, step by step, of most at most, and tells the model.
func (n *counts) run(x grammar, toks []api.Tok, depth, cells, most int) *model {
	x.t.Helper()
	y, want := x.start(toks, depth, cells), modelOf(x, toks, depth, cells)
	for range most {
		got, is := y.Step(), want.step()
		if y.told() != want.told() || got != is {
			x.t.Fatalf("by %v %v with %d, %d tells\n%v %snot\n%v %s", x.p.Rules, toks, depth, cells, got, y.told(), is, want.told())
		}
		if is {
			break
		}
	}
	if !slices.Equal(y.nodes(), want.made) {
		x.t.Fatalf("by %v %v with %d, %d makes\n%vnot\n%v", x.p.Rules, toks, depth, cells, y.nodes(), want.made)
	}
	m := meter.New(cells)
	if ran := (trial{engine.Run(x.p, x.g, toks, depth, m, most), x, m}); ran.all() != y.all() {
		x.t.Fatalf("by %v %v with %d, %d, %d runs to\n%snot\n%s", x.p.Rules, toks, depth, cells, most, ran.all(), y.all())
	}
	n.follows(y)
	n.kinds[want.came.Kind]++
	if want.came.Kind == api.RunTree && want.at > 2 {
		n.long++
	}
	if want.came.Kind == api.RunReject && len(want.came.Expected) > 1 {
		n.many++
	}
	if want.came.Kind == api.RunReject && !slices.Equal(want.states, want.shifted) {
		n.behind++
	}
	return want
}

// follows fails the test if P19.3 does not hold.
func (n *counts) follows(y trial) {
	y.t.Helper()
	w, o := y.Tree(), y.Outcome()
	if y.Steps()-1 > w.Cells() || y.Depth() > y.Most() {
		y.t.Fatalf("%d steps are of %d cells, the depth is %d of %d", y.Steps(), w.Cells(), y.Depth(), y.Most())
	}
	if o.Kind == api.RunTree && (!w.Right(y.p, o.Root) || w.Sym(o.Root) != y.p.Rules[0].Right[0]) {
		y.t.Fatalf("by %v %s is a tree", y.p.Rules, w.Show(y.p, o.Root))
	}
}

// enough fails the test if too few machines came to one of all.
func (n *counts) enough(t *testing.T, least int) {
	t.Helper()
	if min(n.kinds[api.RunTree], n.kinds[api.RunReject], n.kinds[api.RunQuota], n.long, n.many, n.behind) < least {
		t.Errorf("just %+v", *n)
	}
}

// bounds holds machines of some tokens against the model, with all bounds about those that they want.
func (n *counts) bounds(x grammar, toks []api.Tok) {
	x.t.Helper()
	free := n.run(x, toks, 40, 90, 100)
	for depth := -1; depth <= free.most && depth < 7; depth++ {
		n.run(x, toks, depth, 90, 100)
	}
	for cells := range min(free.used, 12) {
		n.run(x, toks, 40, cells, 100)
	}
	for most := range min(free.steps, 4) {
		n.run(x, toks, 40, 90, most)
	}
	n.run(x, toks, free.most, free.used, free.steps)
	n.run(x, toks, free.most-1, free.used-1, free.steps)
}

// planned is the grammar of some levels and rules, if they are one of which Check tells nothing, with not too many states.
func planned(t *testing.T, levels []api.Level, l ...api.Rule) (grammar, bool) {
	t.Helper()
	g := api.Grammar{Start: "S", Levels: levels, Rules: l}
	for _, name := range []string{"a", "b", "c"} {
		g.Tokens = append(g.Tokens, api.Token{Name: name, Pat: api.Pat{Text: name}})
	}
	p, e, _ := names.Of(g)
	if e != api.OK {
		return grammar{}, false
	}
	if _, e := check.Check(p); e != api.OK {
		return grammar{}, false
	}
	if _, e := states.Build(p, 100, api.MaxCount); e != api.OK {
		return grammar{}, false
	}
	return of(t, p), true
}

// rules are all rules of some Lefts, whose Right has up to some number of some symbols.
func rules(lefts, symbols []string, wide int) []api.Rule {
	var all []api.Rule
	rights := [][]string{nil}
	for i := 0; i < len(rights); i++ {
		for _, left := range lefts {
			all = append(all, api.Rule{Left: left, Right: rights[i]})
		}
		for _, name := range symbols {
			if len(rights[i]) < wide {
				rights = append(rights, append(slices.Clone(rights[i]), name))
			}
		}
	}
	return all
}

// texts are all texts of the first few letters, up to some length.
func texts(letters string, length int) []string {
	l := []string{""}
	for i := 0; len(l[i]) < length; i++ {
		for _, x := range letters {
			l = append(l, l[i]+string(x))
		}
	}
	return l
}

// P19.1, P19.3: all grammars of up to two rules, with short texts, and all bounds.
func TestModelOfShortGrammars(t *testing.T) {
	n := &counts{}
	add := func(levels []api.Level, l ...api.Rule) {
		if x, is := planned(t, levels, l...); is {
			for _, s := range texts("ab", 3) {
				n.bounds(x, word(s))
			}
		}
	}
	for _, levels := range [][]api.Level{nil, {{Assoc: api.None, Names: []string{"b"}}, {Assoc: api.Left, Names: []string{"a"}}}} {
		for _, all := range [][]api.Rule{rules([]string{"S", "T"}, []string{"a", "S", "T"}, 2), rules([]string{"S"}, []string{"a", "b", "S"}, 2)} {
			for i, x := range all {
				add(levels, x)
				for _, y := range all[:i] {
					add(levels, x, y)
					add(levels, y, x)
				}
			}
		}
	}
	n.behind = n.kinds[api.RunTree] // hardly any so short grammar is of that kind
	n.enough(t, 400)
}

// leveling is some levels by chance, of the tokens, and of names that are none.
func leveling(r *rand.Rand) []api.Level {
	var l []api.Level
	names := []string{"a", "b", "c", "x", "y"}
	r.Shuffle(len(names), func(i, j int) { names[i], names[j] = names[j], names[i] })
	for len(names) > 0 {
		n := 1 + r.Intn(len(names))
		if r.Intn(4) > 0 {
			l = append(l, api.Level{Assoc: 1 + r.Intn(3), Names: names[:n]})
		}
		names = names[n:]
	}
	return l
}

// mixed is a grammar by chance, of one variable or several.
func mixed(t *testing.T, r *rand.Rand, levels []api.Level) (grammar, bool) {
	t.Helper()
	vars := strings.Split("STUVW", "")[:1+r.Intn(5)]
	precs := []string{"", ""}
	for _, x := range levels {
		precs = append(precs, x.Names...)
	}
	pick := func(l []string) string { return l[r.Intn(len(l))] }
	tokens := []string{"a", "b", "c"}
	var l []api.Rule
	for i := range len(vars) + 1 + r.Intn(2*len(vars)) {
		rule := api.Rule{Left: vars[i%len(vars)], Prec: pick(precs)}
		for range r.Intn(5) {
			rule.Right = append(rule.Right, pick([]string{pick(vars), pick(tokens)}))
		}
		l = append(l, rule)
	}
	return planned(t, levels, append(l, api.Rule{Left: pick(vars), Right: []string{pick(tokens)}})...)
}

// sentence are terminals that come of a symbol by chance, of not too many rules.
func sentence(r *rand.Rand, p api.Plan, sym, depth int) []int {
	if names.Term(p, sym) {
		return []int{sym}
	}
	if depth == 0 {
		return check.Sentence(p, sym)
	}
	var some []api.Prod
	for _, rule := range p.Rules {
		if rule.Left == sym {
			some = append(some, rule)
		}
	}
	var l []int
	for _, x := range some[r.Intn(len(some))].Right {
		l = append(l, sentence(r, p, x, depth-1)...)
	}
	return l
}

// garbled is a sentence by chance, at times with something wrong.
func garbled(r *rand.Rand, p api.Plan) []api.Tok {
	l := sentence(r, p, p.Rules[0].Right[0], 1+r.Intn(6))
	l = l[:min(len(l), 40)]
	odd := []int{-1, 0, 1, 2, 3, 4, 99}[r.Intn(7)]
	switch i := r.Intn(len(l) + 1); r.Intn(8) {
	case 0:
		l = l[:i]
	case 1:
		l = slices.Insert(l, i, odd)
	case 2:
		if i < len(l) {
			l[i] = odd
		}
	case 3:
		l = append(l, 0, odd)
	}
	return line(l...)
}

// P19.1, P19.3: grammars, texts and bounds by chance.
func TestModelByChance(t *testing.T) {
	r := rand.New(rand.NewSource(19))
	n := &counts{}
	for range 3000 {
		x, is := mixed(t, r, leveling(r))
		if !is {
			continue
		}
		for range 10 {
			toks := garbled(r, x.p)
			free := n.run(x, toks, 60, 300, 400)
			n.run(x, toks, free.most-r.Intn(3), free.used-r.Intn(2), free.steps)
			n.run(x, toks, r.Intn(12)-1, 200, 200)
			n.run(x, toks, 60, r.Intn(40), 200)
		}
	}
	n.enough(t, 2000)
}

// P19.2: stacks by chance, of states that are come to, and of any ones, with all kinds of bounds.
func TestModelOfExpected(t *testing.T) {
	r := rand.New(rand.NewSource(192))
	none, some, all := 0, 0, 0
	for range 3000 {
		x, is := mixed(t, r, leveling(r))
		if !is {
			continue
		}
		for range 40 {
			stack := x.climb(r)
			if r.Intn(4) == 0 {
				stack = slices.Clone(stack[r.Intn(len(stack)):])
				stack[r.Intn(len(stack))] = r.Intn(x.auto.Len()+3) - 1
			}
			most := len(stack) + r.Intn(8) - 5
			want := going(x.p, x.g, stack, most)
			x.expects(stack, most, want...)
			switch len(want) {
			case 0:
				none++
			case len(x.p.Terms):
				all++
			default:
				some++
			}
		}
	}
	if min(none, some, all) < 300 {
		t.Errorf("none is expected of %d stacks, some of %d, all of %d", none, some, all)
	}
}

// climb is a stack by chance, on which one comes from state to state.
func (x grammar) climb(r *rand.Rand) []int {
	l := []int{0}
	for range r.Intn(10) {
		edges := x.auto.Edges(l[len(l)-1])
		if len(edges) == 0 {
			break
		}
		l = append(l, edges[r.Intn(len(edges))].To)
	}
	return l
}

// entry is a rule, a dot in it, and where it began: what Earley's sets have.
type entry struct{ rule, dot, from int }

// earley are the sets of some terminals: each has what a sentence that begins with those ahead of it may go on with. It stops behind an empty one.
func earley(p api.Plan, terms []int) []map[entry]bool {
	sets := []map[entry]bool{{entry{}: true}}
	for at := 0; ; at++ {
		complete(p, sets, at)
		if at == len(terms) || len(sets[at]) == 0 {
			return sets
		}
		sets = append(sets, map[entry]bool{})
		for x := range sets[at] {
			if right := p.Rules[x.rule].Right; x.dot < len(right) && right[x.dot] == terms[at] && names.Term(p, terms[at]) {
				sets[at+1][entry{x.rule, x.dot + 1, x.from}] = true
			}
		}
	}
}

// complete puts into the last one of some sets all that follows from what it has.
func complete(p api.Plan, sets []map[entry]bool, at int) {
	for had := -1; had != len(sets[at]); {
		had = len(sets[at])
		var come []entry
		for x := range sets[at] {
			right := p.Rules[x.rule].Right
			if x.dot == len(right) {
				for y := range sets[x.from] {
					if r := p.Rules[y.rule].Right; y.dot < len(r) && r[y.dot] == p.Rules[x.rule].Left {
						come = append(come, entry{y.rule, y.dot + 1, y.from})
					}
				}
				continue
			}
			for i, r := range p.Rules {
				if r.Left == right[x.dot] {
					come = append(come, entry{i, 0, at})
				}
			}
		}
		for _, x := range come {
			sets[at][x] = true
		}
	}
}

// follow are the terminals with which some sentence goes on behind what a set is of: 0, if one ends there.
func follow(p api.Plan, set map[entry]bool) []int {
	is := map[int]int{}
	for x := range set {
		right := p.Rules[x.rule].Right
		if x.rule == 0 && x.dot == 1 {
			is[0]++
		} else if x.dot < len(right) && names.Term(p, right[x.dot]) {
			is[right[x.dot]]++
		}
	}
	var l []int
	for term := range p.Terms {
		if is[term] > 0 {
			l = append(l, term)
		}
	}
	return l
}

// sentences is how many texts, of how many grammars, were held against what their sentences are.
type sentences struct{ grammars, trees, rejects, far, behind int }

// hold fails the test if P19.4, T2 or P19.3 does not hold of some terminals: which are a sentence, and how far they begin one, is told by Earley's sets.
func (n *sentences) hold(x grammar, terms []int) {
	x.t.Helper()
	y, sets := x.run(line(terms...), 200, 20000), earley(x.p, terms)
	o, at := y.Outcome(), len(sets)-1
	if len(sets[at]) == 0 {
		at--
	}
	next := follow(x.p, sets[at])
	if at == len(terms) && slices.Contains(next, 0) {
		if o.Kind != api.RunTree || !slices.Equal(y.Tree().Yield(o.Root), line(terms...)) {
			x.t.Fatalf("by %v %v comes to %v", x.p.Rules, terms, o)
		}
		(&counts{}).follows(y)
		n.trees++
		return
	}
	if y.comes(api.Outcome{Kind: api.RunReject, At: at, Expected: next}); x.t.Failed() {
		x.t.Fatalf("by %v, of %v", x.p.Rules, terms)
	}
	n.rejects++
	if at > 2 {
		n.far++
	}
	if y.Tree().Len() > at && y.Steps() > 1 {
		n.behind++
	}
}

// P19.4, P19.3, T2: if no pair clashes just the sentences are trees, others are rejected where none goes on, and what is expected is what some sentence goes on with. So of all short texts, and of such as come of sentences by chance.
func TestSentences(t *testing.T) {
	r := rand.New(rand.NewSource(194))
	n := &sentences{}
	short := texts("abc", 4)
	for range 12000 {
		x, is := mixed(t, r, nil)
		if !is || len(x.g.Clashes()) > 0 {
			continue
		}
		n.grammars++
		for _, s := range short {
			var terms []int
			for _, tok := range word(s) {
				terms = append(terms, tok.Term)
			}
			n.hold(x, terms)
		}
		for range 20 {
			var terms []int
			for _, tok := range garbled(r, x.p) {
				if tok.Term == 0 {
					break
				}
				terms = append(terms, tok.Term)
			}
			n.hold(x, terms)
		}
	}
	if n.grammars < 300 || min(n.trees, n.rejects, n.far, n.behind) < 1000 {
		t.Errorf("just %+v", *n)
	}
}

// P19.1: of another plan than the grid's, whatever that one is, calls end, and do not panic.
func TestOtherPlans(t *testing.T) {
	r := rand.New(rand.NewSource(1))
	odd := func() int { return []int{-1 << 40, -1, 0, 1, 2, 3, 4, 5, 6, 7, 1 << 40}[r.Intn(11)] }
	some := func(n int) []int {
		var l []int
		for range r.Intn(n) {
			l = append(l, odd())
		}
		return l
	}
	ask := func(p api.Plan, g *resolve.Grid) {
		toks := line(some(12)...)
		y := engine.Run(p, g, toks, odd(), meter.New(r.Intn(200)), 500)
		if y.Depth() > y.Most() || y.Steps()-1 > y.Tree().Cells() {
			t.Fatal(y.Depth(), y.Most(), y.Steps(), y.Tree().Cells())
		}
		if o := y.Outcome(); o.Kind == api.RunTree {
			y.Tree().Right(p, o.Root)
		}
		engine.Expected(g, p, some(9), odd())
	}
	grids := []*resolve.Grid{resolve.Of(api.Plan{}, nil, nil)}
	for range 2500 {
		x, is := mixed(t, r, leveling(r))
		if !is {
			continue
		}
		grids = append(grids, x.g)
		ask(api.Plan{}, x.g)
		for range 10 {
			ask(x.p, grids[r.Intn(len(grids))])
			p := api.Plan{Terms: make([]string, r.Intn(6))}
			for range r.Intn(9) {
				p.Rules = append(p.Rules, api.Prod{Left: odd(), Right: some(6)})
			}
			ask(p, grids[r.Intn(len(grids))])
		}
	}
}
