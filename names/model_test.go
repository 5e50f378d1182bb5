package names_test

import (
	"math/rand"
	"slices"
	"strings"
	"testing"

	"tronage/api"
	"tronage/names"
	"tronage/printer"
)

// The model is made of maps from names to numbers, which it fills from all of a grammar at once; what is wrong is told by a list of all that is, of which the first thing counts.

// numbers are what a grammar's names stand for.
type numbers struct{ syms, terms, vars, levels map[string]int }

// number numbers all names of a grammar.
func number(g api.Grammar) numbers {
	n := numbers{map[string]int{"$end": 0}, map[string]int{"$end": 0}, map[string]int{}, map[string]int{}}
	for i, t := range g.Tokens {
		n.syms[t.Name], n.terms[t.Name] = i+1, i+1
	}
	for _, r := range g.Rules {
		if _, is := n.vars[r.Left]; !is {
			n.vars[r.Left] = 1 + len(g.Tokens) + len(n.vars)
			n.syms[r.Left] = n.vars[r.Left]
		}
	}
	for i, l := range g.Levels {
		for _, name := range l.Names {
			n.levels[name] = i + 1
		}
	}
	return n
}

// complaint is something that is wrong.
type complaint struct {
	e    api.Errno
	name string
}

// complaints are all that is wrong with a grammar that can be read, in the chapter's order, and at its end that nothing is.
func complaints(g api.Grammar, n numbers) []complaint {
	var l []complaint
	ask := func(in map[string]int, name string, want bool, e api.Errno) {
		if _, is := in[name]; is != want {
			l = append(l, complaint{e, name})
		}
	}
	for _, t := range g.Tokens {
		ask(n.vars, t.Name, false, api.ErrTwice)
	}
	for _, r := range g.Rules {
		for _, name := range r.Right {
			ask(n.syms, name, true, api.ErrName)
		}
		if r.Prec != "" {
			ask(n.levels, r.Prec, true, api.ErrName)
		}
	}
	ask(n.vars, g.Start, true, api.ErrName)
	return append(l, complaint{})
}

// modelled is the plan of a grammar in which nothing is wrong.
func modelled(g api.Grammar, n numbers) api.Plan {
	p := api.Plan{Terms: make([]string, len(n.terms)), Vars: make([]string, len(n.vars)), Levels: make([]int, len(n.terms)), Assocs: make([]int, 1+len(g.Levels))}
	for name, sym := range n.terms {
		p.Terms[sym], p.Levels[sym] = name, n.levels[name]
	}
	for name, sym := range n.vars {
		p.Vars[sym-len(n.terms)] = name
	}
	for i, l := range g.Levels {
		p.Assocs[i+1] = l.Assoc
	}
	all := append([]api.Rule{{Left: "$accept", Right: []string{g.Start}}}, g.Rules...)
	n.syms["$accept"] = len(n.syms)
	for _, r := range all {
		prod := api.Prod{Left: n.syms[r.Left]}
		for _, name := range r.Right {
			prod.Right = append(prod.Right, n.syms[name])
			if _, is := n.terms[name]; is {
				prod.Level = n.levels[name]
			}
		}
		if r.Prec != "" {
			prod.Level = n.levels[r.Prec]
		}
		p.Rules, p.Acts = append(p.Rules, prod), append(p.Acts, r.Action)
	}
	return p
}

// agrees fails the test if the model tells other things of a grammar, and answers what is wrong with it.
func agrees(t *testing.T, g api.Grammar) api.Errno {
	t.Helper()
	n := number(g)
	first, want := complaint{e: api.ErrArg}, api.Plan{}
	if printer.Right(g) {
		first = complaints(g, n)[0]
	}
	if first.e == api.OK {
		want = modelled(g, n)
	}
	p, e, name := names.Of(g)
	if !same(p, want) || e != first.e || name != first.name {
		t.Fatalf("Of(%v) = %v, %d, %q, want %v, %v", g, p, e, name, want, first)
	}
	if e == api.OK {
		asked(t, g, p, n)
	}
	return e
}

// asked fails the test if a plan's symbols and rules are not told as the model does.
func asked(t *testing.T, g api.Grammar, p api.Plan, n numbers) {
	t.Helper()
	texts := make([]string, len(n.syms)+2)
	for name, sym := range n.syms {
		texts[sym] = name
	}
	for sym := -2; sym < len(texts); sym++ {
		name := ""
		if sym >= 0 {
			name = texts[sym]
		}
		if names.Name(p, sym) != name || names.Term(p, sym) != (sym >= 0 && sym < len(n.terms)) {
			t.Fatalf("of %v Name of %d is %q, Term %v", g, sym, names.Name(p, sym), names.Term(p, sym))
		}
	}
	if names.Accept(p) != n.syms["$accept"] {
		t.Fatalf("of %v %d is accepted", g, names.Accept(p))
	}
	for _, name := range append(texts, "A", "B", "C", "a", "b", "c", "$", "$accept", "end") {
		sym, is := n.syms[name]
		if !is || name == "$accept" {
			sym = -1
		}
		if names.Sym(p, name) != sym {
			t.Fatalf("of %v Sym of %q is %d, not %d", g, name, names.Sym(p, name), sym)
		}
	}
	shown := []string{"", "$accept : " + g.Start}
	for _, r := range g.Rules {
		shown = append(shown, strings.Join(append([]string{r.Left, ":"}, r.Right...), " "))
	}
	for i, s := range append(shown, "") {
		if names.Show(p, i-1) != s {
			t.Fatalf("of %v Show of %d is %q", g, i-1, names.Show(p, i-1))
		}
	}
}

// lists are all lists of up to n of some things.
func lists[T any](n int, things ...T) [][]T {
	all, last := [][]T{nil}, [][]T{nil}
	for range n {
		var longer [][]T
		for _, l := range last {
			for _, x := range things {
				longer = append(longer, append(slices.Clip(l), x))
			}
		}
		all, last = append(all, longer...), longer
	}
	return all
}

// short are all rules of some names, whose Right has up to n symbols.
func short(n int, names ...string) []api.Rule {
	var all []api.Rule
	for _, left := range names {
		for _, right := range lists(n, names...) {
			for _, prec := range append(names, "") {
				all = append(all, api.Rule{Left: left, Right: right, Prec: prec, Action: prec})
			}
		}
	}
	return all
}

// count counts how many grammars of some tokens, levels and rules there are of each error. Those with a token twice, and those with a level's name twice, can't be read.
func count(t *testing.T, tokens, levels [][]string, rules [][]api.Rule) map[api.Errno]int {
	t.Helper()
	n := map[api.Errno]int{}
	for _, start := range []string{"a", "b", "c"} {
		for _, ts := range tokens {
			for _, ls := range levels {
				g := api.Grammar{Start: start}
				for _, name := range ts {
					g.Tokens = append(g.Tokens, api.Token{Name: name, Pat: api.Pat{Text: "x"}})
				}
				for i, name := range ls {
					g.Levels = append(g.Levels, api.Level{Assoc: 3 - i%3, Names: []string{name}})
				}
				for _, rs := range rules {
					g.Rules = rs
					n[agrees(t, g)]++
				}
			}
		}
	}
	return n
}

// P8.1, P8.2: all grammars of one rule, and of two, of three names; a few with tokens and levels.
func TestModelOfShortGrammars(t *testing.T) {
	var one [][]api.Rule
	for _, r := range short(2, "a", "b", "c") {
		one = append(one, []api.Rule{r})
	}
	all := lists(2, "a", "b", "c")
	for e, n := range count(t, all, all, one) {
		if n < 1000 {
			t.Errorf("just %d of the error %d", n, e)
		}
	}
	two := lists(2, short(1, "a", "b")...)[1:] // there is a rule at least
	few := [][]string{nil, {"a"}, {"b"}, {"c"}, {"b", "c"}, {"c", "a"}}
	for e, n := range count(t, few, few, two) {
		if n < 1000 {
			t.Errorf("just %d of the error %d", n, e)
		}
	}
}

// letters are the names of which grammars by chance are made.
var letters = strings.Split("abcdefghijklmnopqrstuvwxyzABCDEFGHIJKLMNOPQRSTUVWXYZ", "")

// chance puts together grammars of some names, of which tokens and variables are apart, mostly.
type chance struct {
	*rand.Rand
	tokens, vars, levels []string
}

// mostly is one of some names; of all letters seldom.
func (c chance) mostly(l []string) string {
	if c.Intn(60) == 0 {
		l = letters
	}
	return l[c.Intn(len(l))]
}

// rule is a rule.
func (c chance) rule() api.Rule {
	r := api.Rule{Left: c.mostly(c.vars), Action: []string{"", "$1", "{}"}[c.Intn(3)]}
	for range c.Intn(4 + 5*c.Intn(2)) {
		r.Right = append(r.Right, c.mostly(append(slices.Clip(c.tokens), c.vars...)))
	}
	if c.Intn(3) == 0 {
		r.Prec = c.mostly(c.levels)
	}
	return r
}

// grammar is a grammar, all of whose rules' Lefts are there, mostly.
func (c chance) grammar() api.Grammar {
	g := api.Grammar{Start: c.mostly(c.vars)}
	for _, name := range c.tokens {
		g.Tokens = append(g.Tokens, api.Token{Name: name, Pat: api.Pat{Text: name}})
	}
	for i, name := range c.levels {
		if i == 0 || c.Intn(3) > 0 {
			g.Levels = append(g.Levels, api.Level{Assoc: 1 + c.Intn(3)})
		}
		last := &g.Levels[len(g.Levels)-1]
		last.Names = append(last.Names, name)
	}
	for range 1 + c.Intn(40) {
		g.Rules = append(g.Rules, c.rule())
	}
	for _, name := range c.vars[c.Intn(10)/9:] {
		if len(g.Rules) < api.MaxRules {
			g.Rules = append(g.Rules, api.Rule{Left: name})
		}
	}
	c.Shuffle(len(g.Rules), func(i, j int) { g.Rules[i], g.Rules[j] = g.Rules[j], g.Rules[i] })
	return g
}

// P8.1, P8.2: grammars by chance, of up to so many tokens, levels and rules as may be.
func TestModelByChance(t *testing.T) {
	r := rand.New(rand.NewSource(8))
	n := map[api.Errno]int{}
	for range 20000 {
		l := slices.Clone(letters)
		r.Shuffle(len(l), func(i, j int) { l[i], l[j] = l[j], l[i] })
		tokens, vars := 1+r.Intn(21), 1+r.Intn(12)
		from := r.Intn(tokens)
		c := chance{r, l[:tokens], l[tokens : tokens+vars], l[from : from+1+r.Intn(12)]}
		n[agrees(t, c.grammar())]++
	}
	for _, e := range []api.Errno{api.OK, api.ErrArg, api.ErrTwice, api.ErrName} {
		if n[e] < 800 {
			t.Errorf("just %d of the error %d", n[e], e)
		}
	}
}
