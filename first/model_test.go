package first_test

import (
	"math"
	"math/rand"
	"slices"
	"strings"
	"testing"

	"tronage/api"
	"tronage/check"
	"tronage/first"
	"tronage/names"
)

// The model tells what is nullable by how high its derivation is; what symbols begin with, and what comes behind them, by walks from symbol to symbol; and rounds by how many things are known ahead of each, and behind it.

// set is some terminals; nothing stands for a sentence without any.
type set map[int]bool

const nothing = -1

// terms are a set's terminals, rising.
func (s set) terms() []int {
	var l []int
	for term := range s {
		if term != nothing {
			l = append(l, term)
		}
	}
	slices.Sort(l)
	return l
}

// add adds all of another one.
func (s set) add(o set) {
	for term := range o {
		s[term] = true
	}
}

// model is a plan, with what is nullable in it.
type model struct {
	api.Plan
	nullable set
}

// modelled is a plan's model.
func modelled(p api.Plan) model {
	m := model{p, set{}}
	for range len(p.Vars) + 1 { // no derivation of nothing need be higher
		higher := set{}
		for _, r := range p.Rules {
			if m.void(r.Right) {
				higher[r.Left] = true
			}
		}
		m.nullable = higher
	}
	return m
}

// void tells whether some symbols are nullable throughout.
func (m model) void(symbols []int) bool {
	for _, sym := range symbols {
		if !m.nullable[sym] {
			return false
		}
	}
	return true
}

// opens walks to all terminals that a symbol begins with.
func (m model) opens(sym int, seen, terms set) {
	if seen[sym] {
		return
	}
	seen[sym] = true
	if sym < len(m.Terms) {
		terms[sym] = true
		return
	}
	for _, r := range m.Rules {
		for i, next := range r.Right {
			if r.Left == sym && m.void(r.Right[:i]) {
				m.opens(next, seen, terms)
			}
		}
	}
}

// trails walks to all places where what comes behind a variable may stand.
func (m model) trails(sym int, seen, terms set) {
	if seen[sym] {
		return
	}
	seen[sym] = true
	if sym == len(m.Terms)+len(m.Vars) {
		terms[0] = true
		return
	}
	for _, r := range m.Rules {
		for i, at := range r.Right {
			if at != sym {
				continue
			}
			for j := i + 1; j < len(r.Right); j++ {
				if m.void(r.Right[i+1 : j]) {
					m.opens(r.Right[j], set{}, terms)
				}
			}
			if m.void(r.Right[i+1:]) {
				m.trails(r.Left, seen, terms)
			}
		}
	}
}

// rounds plays the rounds.
func (m model) rounds() int {
	known := map[int]set{}
	for sym := range len(m.Terms) + len(m.Vars) + 1 {
		known[sym] = set{}
		if sym < len(m.Terms) {
			known[sym][sym] = true
		}
	}
	for n, was := 1, len(m.Terms); ; n++ {
		for _, r := range m.Rules {
			left := known[r.Left]
			ended := false
			for _, sym := range r.Right {
				if !ended {
					for _, term := range known[sym].terms() {
						left[term] = true
					}
					ended = !known[sym][nothing]
				}
			}
			if !ended {
				left[nothing] = true
			}
		}
		now := 0
		for _, s := range known {
			now += len(s)
		}
		if now == was {
			return n
		}
		was = now
	}
}

// begins are the beginnings of all sentences of each symbol: terminals, and nothing of a sentence without any.
func begins(p api.Plan) []set {
	all := make([]set, len(p.Terms)+len(p.Vars)+1)
	for sym := range all {
		all[sym] = set{}
		if sym < len(p.Terms) {
			all[sym][sym] = true
		}
	}
	for again := true; again; {
		again = false
		for _, r := range p.Rules {
			sentences := set{nothing: true}
			for _, sym := range r.Right {
				longer := set{}
				for term := range sentences {
					if term == nothing {
						longer.add(all[sym])
					} else if len(all[sym]) > 0 {
						longer[term] = true
					}
				}
				sentences = longer
			}
			was := len(all[r.Left])
			all[r.Left].add(sentences)
			again = again || len(all[r.Left]) > was
		}
	}
	return all
}

// agrees fails the test if the model tells other things of a plan.
func agrees(t *testing.T, p api.Plan) first.Facts {
	t.Helper()
	f, m := first.Of(p), modelled(p)
	if n := len(p.Vars) + 1; len(f.Nullable) != n || len(f.First) != n || len(f.Follow) != n {
		t.Fatalf("of %v the facts are %v", p, f)
	}
	for i, nullable := range f.Nullable {
		sym, opens, trails := len(p.Terms)+i, set{}, set{}
		m.opens(sym, set{}, opens)
		m.trails(sym, set{}, trails)
		if nullable != m.nullable[sym] || !slices.Equal(f.First[i], opens.terms()) || !slices.Equal(f.Follow[i], trails.terms()) {
			t.Fatalf("of %v the facts of %d are %t, %v, %v, want %t, %v, %v", p, sym, nullable, f.First[i], f.Follow[i], m.nullable[sym], opens.terms(), trails.terms())
		}
	}
	if n := m.rounds(); f.Rounds != n {
		t.Fatalf("of %v there are %d rounds, want %d", p, f.Rounds, n)
	}
	return f
}

// means fails the test if facts are not what sentences tell; and answers whether each variable makes one.
func means(t *testing.T, p api.Plan, f first.Facts) bool {
	t.Helper()
	if len(check.Productive(p)) < len(p.Vars) {
		return false
	}
	all := begins(p)
	for i, nullable := range f.Nullable {
		sym := len(p.Terms) + i
		if s := all[sym]; nullable != s[nothing] || !slices.Equal(f.First[i], s.terms()) {
			t.Fatalf("of %v the facts of %d are %t, %v, and its sentences begin with %v", p, sym, nullable, f.First[i], s)
		}
		s := check.Sentence(p, sym)
		if shortest := check.Shortest(p)[sym]; nullable != (shortest == 0) || len(s) > 0 && !slices.Contains(f.First[i], s[0]) {
			t.Fatalf("of %v the facts of %d are %t, %v, and it has the sentence %v", p, sym, nullable, f.First[i], s)
		}
	}
	return true
}

// follows fails the test if Seq of some symbols is not what the model tells.
func follows(t *testing.T, p api.Plan, f first.Facts, seq []int) {
	t.Helper()
	m, want, all := modelled(p), set{}, true
	for _, sym := range seq {
		is := sym >= 0 && sym <= len(p.Terms)+len(p.Vars)
		if is && all {
			m.opens(sym, set{}, want)
			all = m.nullable[sym]
		}
	}
	if l, nullable := f.Seq(p, seq); nullable != all || !slices.Equal(l, want.terms()) {
		t.Fatalf("of %v Seq of %v tells %v, %t, want %v, %t", p, seq, l, nullable, want.terms(), all)
	}
}

// counted is how many plans, and how many of some kinds, a test has held against the model.
type counted struct{ plans, productive, nullable, empty, long int }

// add holds the plan of a grammar, if it has one, against the model.
func (n *counted) add(t *testing.T, start string, l ...api.Rule) (api.Plan, first.Facts, bool) {
	t.Helper()
	g := api.Grammar{Start: start, Rules: l}
	for _, name := range []string{"a", "b", "c"} {
		g.Tokens = append(g.Tokens, api.Token{Name: name, Pat: api.Pat{Text: name}})
	}
	p, e, _ := names.Of(g)
	if e != api.OK {
		return p, first.Facts{}, false
	}
	f := agrees(t, p)
	n.plans++
	if means(t, p, f) {
		n.productive++
	}
	if slices.Contains(f.Nullable, true) {
		n.nullable++
	}
	if slices.ContainsFunc(f.First, func(l []int) bool { return len(l) == 0 }) {
		n.empty++
	}
	if f.Rounds > 3 {
		n.long++
	}
	return p, f, true
}

func (n *counted) enough(t *testing.T, least int) {
	t.Helper()
	if min(n.plans, n.productive, n.nullable, n.empty, n.long) < least {
		t.Errorf("just %v plans", *n)
	}
}

// rules are all rules of some Lefts, whose Right has up to two of some symbols.
func rules(lefts, symbols []string) []api.Rule {
	var all []api.Rule
	for _, left := range lefts {
		all = append(all, api.Rule{Left: left})
		for _, x := range symbols {
			all = append(all, api.Rule{Left: left, Right: []string{x}})
			for _, y := range symbols {
				all = append(all, api.Rule{Left: left, Right: []string{x, y}})
			}
		}
	}
	return all
}

// P10.1, P10.2, P10.4: all grammars of one rule, and of two, of two variables and two tokens; of three, of one token. A rule's Right has up to two symbols.
func TestModelOfShortGrammars(t *testing.T) {
	n := &counted{}
	lefts := []string{"S", "T"}
	for _, start := range lefts {
		all := rules(lefts, []string{"a", "b", "S", "T"})
		for _, x := range all {
			n.add(t, start, x)
			for _, y := range all {
				n.add(t, start, x, y)
			}
		}
		all = rules(lefts, []string{"a", "S", "T"})
		for _, x := range all {
			for _, y := range all {
				for _, z := range all {
					n.add(t, start, x, y, z)
				}
			}
		}
	}
	n.enough(t, 500)
}

// variables are the names of variables of which grammars by chance are made.
var variables = strings.Split("ABCDEFGHIJKLMNOPQRSTUVWXYZdefghijklmnopq", "")

// mixed are rules by chance of some variables, of which few are nullable, or most are.
func mixed(r *rand.Rand, vars []string, wide, terms int) []api.Rule {
	var l []api.Rule
	for i := range min(api.MaxRules, len(vars)+r.Intn(2*len(vars))) {
		rule := api.Rule{Left: vars[i%len(vars)]}
		for range r.Intn(1 + wide) {
			name := vars[r.Intn(len(vars))]
			if r.Intn(10) < terms {
				name = []string{"a", "b", "c"}[r.Intn(3)]
			}
			rule.Right = append(rule.Right, name)
		}
		l = append(l, rule)
	}
	if r.Intn(2) > 0 {
		r.Shuffle(len(l), func(i, j int) { l[i], l[j] = l[j], l[i] })
	}
	return l
}

// P10.1, P10.2, P10.3, P10.4: grammars by chance, of up to so many rules and symbols as may be, and sequences of their symbols.
func TestModelByChance(t *testing.T) {
	r := rand.New(rand.NewSource(10))
	n := &counted{}
	for range 4000 {
		vars := variables[:1+r.Intn(len(variables))]
		if r.Intn(2) > 0 {
			vars = variables[:1+r.Intn(8)]
		}
		p, f, is := n.add(t, vars[r.Intn(len(vars))], mixed(r, vars, 1+r.Intn(api.MaxRight), r.Intn(9))...)
		for range 10 {
			var seq []int
			for range r.Intn(6) {
				seq = append(seq, r.Intn(len(p.Terms)+len(p.Vars)+4)-1)
			}
			if is {
				follows(t, p, f, seq)
			}
		}
	}
	n.enough(t, 500)
}

// P10.3: what a rule's Right begins with is in its Left's First; a variable alone begins with its own.
func TestSeqOfRules(t *testing.T) {
	p := plan(t, "%% E : T X ; X : a T X | ; T : F Y ; Y : b F Y | Y | ; F : c | E F ;")
	f := first.Of(p)
	for _, r := range p.Rules {
		left := r.Left - len(p.Terms)
		l, nullable := f.Seq(p, r.Right)
		for _, term := range l {
			if !slices.Contains(f.First[left], term) {
				t.Errorf("%d is in %v, and not in %v", term, l, f.First[left])
			}
		}
		if nullable && !f.Nullable[left] {
			t.Errorf("%v is nullable, and its Left is not", r)
		}
	}
	for i := range f.First {
		if l, nullable := f.Seq(p, []int{len(p.Terms) + i}); !slices.Equal(l, f.First[i]) || nullable != f.Nullable[i] {
			t.Errorf("Seq of %d tells %v, %t", i, l, nullable)
		}
	}
}

// R1: of a plan that no grammar has, and of facts that are not its own, nothing is promised, but that each call ends.
func TestWrongPlans(t *testing.T) {
	r := rand.New(rand.NewSource(11))
	odd := func() int {
		if far := []int{math.MinInt, -1 << 40, -1, 64, 999, 1000, 1001, 1 << 40, math.MaxInt}; r.Intn(9) == 0 {
			return far[r.Intn(len(far))]
		}
		return r.Intn(12) - 1
	}
	some := func(n int) []int {
		var l []int
		for range r.Intn(n) {
			l = append(l, odd())
		}
		return l
	}
	wild := first.Facts{}
	for i := range 20000 {
		p := api.Plan{Terms: make([]string, r.Intn(4)), Vars: make([]string, r.Intn(8))}
		switch i % 1000 {
		case 0:
			p.Vars = make([]string, api.MaxBits+r.Intn(3))
		case 1:
			p.Terms = make([]string, api.MaxBits+r.Intn(3))
		}
		for range r.Intn(12) {
			p.Rules = append(p.Rules, api.Prod{Left: odd(), Right: some(5)})
		}
		f := first.Of(p)
		f.Seq(p, some(6))
		wild.Seq(p, some(6))
		first.Facts{Nullable: make([]bool, r.Intn(8)), First: [][]int{some(4), some(4), some(4)}}.Seq(p, some(6))
		wild = f
	}
	first.Of(api.Plan{}).Seq(api.Plan{}, []int{0, 1, -1})
	first.Facts{}.Seq(api.Plan{}, nil)
}
