package check_test

import (
	"math/rand"
	"strings"
	"testing"

	"tronage/api"
	"tronage/check"
	"tronage/names"
)

// The model settles lengths one by one, each time the least one that any rule can give; it walks to what is come to; and it spells a variable's sentence at once when a rule gives it, of what its parts have then.

// total is the length of some symbols, held; -1, if one has none.
func total(lengths, symbols []int) int {
	n := 0
	for _, sym := range symbols {
		if lengths[sym] < 0 {
			return -1
		}
		n = min(n+lengths[sym], api.MaxCount)
	}
	return n
}

// blank are the lengths of a plan's terminals, and of no other symbol.
func blank(p api.Plan) []int {
	l := make([]int, len(p.Terms)+len(p.Vars)+1)
	for sym := range l {
		l[sym] = 1
		if sym >= len(p.Terms) {
			l[sym] = -1
		}
	}
	return l
}

// settled are the lengths of all symbols.
func settled(p api.Plan) []int {
	l := blank(p)
	for {
		left, least := -1, 0
		for _, r := range p.Rules {
			if n := total(l, r.Right); l[r.Left] < 0 && n >= 0 && (left < 0 || n < least) {
				left, least = r.Left, n
			}
		}
		if left < 0 {
			return l
		}
		l[left] = least
	}
}

// walk marks a symbol, and all that are come to from it.
func walk(p api.Plan, sym int, come []int) {
	if come[sym] > 0 {
		return
	}
	come[sym] = 1
	for _, r := range p.Rules {
		if r.Left == sym {
			for _, next := range r.Right {
				walk(p, next, come)
			}
		}
	}
}

// spellings are all symbols' sentences, as far as they are not too long.
func spellings(p api.Plan) [][]int {
	l := blank(p)
	all := make([][]int, len(l))
	for sym := range p.Terms {
		all[sym] = []int{sym}
	}
	for quiet := 0; quiet < len(p.Rules); {
		for _, r := range p.Rules {
			n := total(l, r.Right)
			quiet++
			if n < 0 || l[r.Left] >= 0 && l[r.Left] <= n {
				continue
			}
			var s []int
			for _, sym := range r.Right {
				if n <= api.MaxInput {
					s = append(s, all[sym]...)
				}
			}
			l[r.Left], all[r.Left], quiet = n, s, 0
		}
	}
	return all
}

// agrees fails the test if the model tells other things of a plan, and answers what is wrong with it.
func agrees(t *testing.T, p api.Plan) api.Errno {
	t.Helper()
	lengths, come := settled(p), make([]int, len(p.Terms)+len(p.Vars)+1)
	walk(p, len(come)-1, come)
	var productive, reachable, barren, loose []int
	for sym, has := range come {
		isVar := sym >= len(p.Terms) && sym < len(come)-1
		switch {
		case isVar && lengths[sym] < 0:
			barren = append(barren, sym)
		case isVar:
			productive = append(productive, sym)
		}
		switch {
		case has > 0:
			reachable = append(reachable, sym)
		case isVar:
			loose = append(loose, sym)
		}
	}
	want, e := 0, api.OK
	if len(barren) > 0 {
		want, e = barren[0], api.ErrBarren
	} else if len(loose) > 0 {
		want, e = loose[0], api.ErrLoose
	}
	equal(t, "Productive", check.Productive(p), productive)
	equal(t, "Reachable", check.Reachable(p), reachable)
	equal(t, "Shortest", check.Shortest(p), lengths)
	for sym, s := range spellings(p) {
		equal(t, "Sentence", check.Sentence(p, sym), s)
	}
	if sym, got := check.Check(p); sym != want || got != e || t.Failed() {
		t.Fatalf("of %v Check tells %d, %d, want %d, %d", p, sym, got, want, e)
	}
	return e
}

// rules are all rules of some Lefts, whose Right has up to two of some symbols.
func rules(lefts, symbols []string) []api.Rule {
	var all []api.Rule
	for _, left := range lefts {
		all = append(all, api.Rule{Left: left})
		for _, x := range symbols {
			all = append(all, api.Rule{Left: left, Right: []string{x}})
			for _, y := range symbols {
				all = append(all, api.Rule{Left: left, Right: []string{x, y}})
			}
		}
	}
	return all
}

// counted counts how many plans there are of each error, and fails the test if there are too few of one.
type counted map[api.Errno]int

// add holds the plan of a grammar, if it has one, against the model.
func (n counted) add(t *testing.T, start string, l ...api.Rule) {
	t.Helper()
	g := api.Grammar{Tokens: []api.Token{{Name: "a", Pat: api.Pat{Text: "a"}}, {Name: "b", Pat: api.Pat{Text: "b"}}}, Start: start, Rules: l}
	if p, e, _ := names.Of(g); e == api.OK {
		n[agrees(t, p)]++
	}
}

func (n counted) enough(t *testing.T, least int) {
	t.Helper()
	for _, e := range []api.Errno{api.OK, api.ErrBarren, api.ErrLoose} {
		if n[e] < least {
			t.Errorf("just %d of the error %d", n[e], e)
		}
	}
}

// P9.1, P9.2, P9.3: all grammars of two rules, and of three short ones, of two variables.
func TestModelOfShortGrammars(t *testing.T) {
	n := counted{}
	lefts := []string{"S", "T"}
	for _, start := range lefts {
		all := rules(lefts, []string{"a", "b", "S", "T"})
		for _, x := range all {
			n.add(t, start, x)
			for _, y := range all {
				n.add(t, start, x, y)
			}
		}
		all = rules(lefts, []string{"a", "S", "T"})
		for _, x := range all {
			for _, y := range all {
				for _, z := range all[:len(all)/2] {
					n.add(t, start, x, y, z)
				}
			}
		}
	}
	n.enough(t, 1000)
}

// letters are the names of which grammars by chance are made.
var letters = strings.Split("ABCDEFGHIJKLMNOPQRSTUVWXYZcdefghijklmnop", "")

// mixed are rules by chance of some variables, that mostly are made of what stands behind them, so that most of them make a sentence, often a long one.
func mixed(r *rand.Rand, vars []string, wide, wild int) []api.Rule {
	var l []api.Rule
	for i := range min(api.MaxRules, len(vars)+r.Intn(2*len(vars))) {
		left := i % len(vars)
		rule := api.Rule{Left: vars[left]}
		for range r.Intn(1 + wide) {
			name := []string{"a", "b"}[r.Intn(2)]
			if next := vars[left+1:]; len(next) > 0 && r.Intn(3) > 0 {
				name = next[r.Intn(min(2, len(next)))]
			}
			if r.Intn(wild) == 0 {
				name = vars[r.Intn(len(vars))]
			}
			rule.Right = append(rule.Right, name)
		}
		l = append(l, rule)
	}
	r.Shuffle(len(l), func(i, j int) { l[i], l[j] = l[j], l[i] })
	return l
}

// P9.1, P9.2, P9.3: grammars by chance, of up to so many rules and symbols as may be.
func TestModelByChance(t *testing.T) {
	r := rand.New(rand.NewSource(9))
	n := counted{}
	for range 6000 {
		vars := letters[:1+r.Intn(len(letters))]
		if r.Intn(2) > 0 {
			vars = letters[:1+r.Intn(8)]
		}
		n.add(t, vars[r.Intn(1+r.Intn(len(vars)))], mixed(r, vars, 1+r.Intn(api.MaxRight), 2+r.Intn(30))...)
	}
	n.enough(t, 300)
}

// R1: of a plan that no grammar has nothing is promised, but that each call ends.
func TestWrongPlans(t *testing.T) {
	r := rand.New(rand.NewSource(10))
	odd := func() int {
		if far := []int{-1 << 63, -1 << 40, -1, 64, 999, 1000, 1001, 1 << 40, 1<<63 - 1}; r.Intn(9) == 0 {
			return far[r.Intn(len(far))]
		}
		return r.Intn(12) - 1
	}
	for i := range 20000 {
		p := api.Plan{Terms: make([]string, r.Intn(4)), Vars: make([]string, r.Intn(8))}
		if i%1000 == 0 {
			p.Vars = make([]string, api.MaxBits+r.Intn(3))
		}
		for range r.Intn(12) {
			rule := api.Prod{Left: odd()}
			for range r.Intn(4) {
				rule.Right = append(rule.Right, odd())
			}
			p.Rules = append(p.Rules, rule)
		}
		check.Productive(p)
		check.Reachable(p)
		check.Check(p)
		check.Shortest(p)
		for range 4 {
			check.Sentence(p, odd())
		}
	}
	check.Check(api.Plan{})
	check.Sentence(api.Plan{}, 0)
}
