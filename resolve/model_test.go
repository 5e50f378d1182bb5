package resolve_test

import (
	"cmp"
	"maps"
	"math/rand"
	"reflect"
	"slices"
	"strconv"
	"strings"
	"testing"

	"tronage/api"
	"tronage/check"
	"tronage/first"
	"tronage/look"
	"tronage/names"
	"tronage/resolve"
	"tronage/states"
)

// The model has of each state its items with looks, put together as they come from state to state: a rule's look comes from what stands behind its Left, or from there where that is nothing; so LALR(1) has it. What is kept it finds in a table.

// level is a symbol's, or a rule's, in a list of all of them; 0, if it has no place there.
func level(levels []int, i int) int {
	if i < 0 || i >= len(levels) {
		return 0
	}
	return levels[i]
}

// verdict is which one is kept of a shift (s) and a reduction (r), or neither (n), by how the terminal's level associates: where the rule's is less (-1), the same (0), or greater (1).
func verdict(assoc, sign int) string {
	return map[int][]string{api.Left: {"s", "r", "r"}, api.Right: {"s", "s", "r"}, api.None: {"s", "n", "r"}}[assoc][1+sign]
}

// kept is the model of Keep.
func kept(p api.Plan, term, to int, rules []int) (api.Act, bool) {
	var ofRules []int
	for _, r := range p.Rules {
		ofRules = append(ofRules, r.Level)
	}
	acts := []api.Act{}
	if to >= 0 {
		acts = append(acts, shift(to))
	}
	for _, rule := range slices.Sorted(slices.Values(rules)) {
		if acts = append(acts, reduce(rule)); rule == 0 {
			acts[len(acts)-1] = accept
		}
	}
	if len(acts) == 0 {
		return refuse, false
	}
	if len(acts) != 2 || to < 0 {
		return acts[0], len(acts) > 1
	}
	ofTerm, ofRule := level(p.Levels, term), level(ofRules, rules[0])
	if ofTerm == 0 || ofRule == 0 {
		return acts[0], true
	}
	return map[string]api.Act{"s": acts[0], "r": acts[1], "n": refuse}[verdict(p.Assocs[ofTerm], cmp.Compare(ofRule, ofTerm))], false
}

// P14.1: all levels, all terminals and rules, those that are none among them, with all short lists of rules, held against the model.
func TestModelOfKeep(t *testing.T) {
	some := []int{-1, 0, 1, 2, 3, 4, 5, 6, 7}
	lists := [][]int{nil}
	for _, x := range some {
		lists = append(lists, []int{x})
		for _, y := range some {
			lists = append(lists, []int{x, y})
			for _, z := range some {
				lists = append(lists, []int{x, y, z})
			}
		}
	}
	words := []string{"%left", "%right", "%nonassoc"}
	for i := range 27 {
		p := plan(t, words[i%3]+" n "+words[i/3%3]+" a "+words[i/9]+" b x %% E : E n E | E a E | E b E | E c E | E n E %prec x | ;")
		for term := -2; term <= len(p.Terms)+2; term++ {
			for _, to := range []int{-2, -1, 0, 1, 9} {
				for _, rules := range lists {
					want, wantBad := kept(p, term, to, rules)
					keeps(t, p, term, to, rules, want, wantBad)
				}
			}
		}
	}
}

// item is one of a state, with a look.
type item struct{ state, rule, dot, look int }

// items are all items of all states, with all their looks.
func items(p api.Plan, a *states.Auto) []item {
	f, l, known := first.Of(p), []item{{}}, map[item]bool{{}: true}
	come := func(x item) {
		if !known[x] {
			known[x] = true
			l = append(l, x)
		}
	}
	for i := 0; i < len(l); i++ {
		x := l[i]
		right := p.Rules[x.rule].Right[x.dot:]
		if len(right) == 0 {
			continue
		}
		come(item{a.Go(x.state, right[0]), x.rule, x.dot + 1, x.look})
		looks, void := f.Seq(p, right[1:])
		if void {
			looks = append(looks, x.look)
		}
		for rule, r := range p.Rules {
			for _, term := range looks {
				if r.Left == right[0] {
					come(item{x.state, rule, 0, term})
				}
			}
		}
	}
	return l
}

// spot is a state, and a terminal.
type spot struct{ state, term int }

// done are the rules that are done, by states and terminals, rising.
func done(p api.Plan, a *states.Auto) map[spot][]int {
	all := map[spot][]int{}
	for _, x := range items(p, a) {
		if x.dot == len(p.Rules[x.rule].Right) {
			at := spot{x.state, x.look}
			all[at] = append(all[at], x.rule)
			slices.Sort(all[at])
		}
	}
	return all
}

// goal is where a state goes by its items, each looked at: to the state with the kernel that comes so.
func goal(p api.Plan, a *states.Auto, state, sym int) int {
	var kernel []api.Item
	for _, i := range a.Items(state) {
		if slices.Index(p.Rules[i.Rule].Right[i.Dot:], sym) == 0 {
			kernel = append(kernel, api.Item{Rule: i.Rule, Dot: i.Dot + 1})
		}
	}
	for to := range a.Len() {
		if len(kernel) > 0 && slices.Equal(a.Kernel(to), kernel) {
			return to
		}
	}
	return -1
}

// counted is how many plans, and how many of some kinds, a test has held against the model.
type counted struct{ plans, plain, clean, bad, several, refused, reduced int }

// note counts a plan's clashes.
func (n *counted) note(l []api.Clash) {
	one := func(n *int, is bool) {
		if is {
			*n++
		}
	}
	some := func(is func(c api.Clash) bool) bool { return slices.ContainsFunc(l, is) }
	bad := some(func(c api.Clash) bool { return c.Bad })
	one(&n.plans, true)
	one(&n.plain, len(l) == 0)
	one(&n.clean, len(l) > 0 && !bad)
	one(&n.bad, bad)
	one(&n.several, some(func(c api.Clash) bool { return len(c.Rules) > 1 && c.Shift >= 0 }))
	one(&n.refused, some(func(c api.Clash) bool { return c.Kept == refuse }))
	one(&n.reduced, some(func(c api.Clash) bool { return c.Shift >= 0 && c.Kept.Kind == api.ActReduce }))
}

// add holds a plan against the model.
func (n *counted) add(t *testing.T, p api.Plan) {
	t.Helper()
	a, g := made(t, p)
	rules, rows := done(p, a), [][]int{}
	var want []api.Clash
	clean := true
	for state := range a.Len() {
		var row []int
		for sym := range names.Accept(p) {
			to := goal(p, a, state, sym)
			if !names.Term(p, sym) {
				row = append(row, to+1)
				if got := g.Go(state, sym); got != to || g.At(state, sym) != refuse {
					t.Fatalf("of %v from %d with %d Go tells %d, At %v, want %d", p.Rules, state, sym, got, g.At(state, sym), to)
				}
				continue
			}
			at := rules[spot{state, sym}]
			x, bad := kept(p, sym, to, at)
			if got := g.At(state, sym); got != x || g.Go(state, sym) != -1 {
				t.Fatalf("of %v in %d with %d At tells %v, Go %d, want %v", p.Rules, state, sym, got, g.Go(state, sym), x)
			}
			if len(at)+min(1, to+1) > 1 {
				want = append(want, api.Clash{State: state, Term: sym, Shift: to, Rules: at, Kept: x, Bad: bad})
			}
			clean = clean && !bad
			row = append(row, []int{0, 2*x.N + 2, 2*x.N + 3, 1}[x.Kind])
		}
		rows = append(rows, row)
	}
	if l := g.Clashes(); !slices.EqualFunc(l, want, func(x, y api.Clash) bool { return reflect.DeepEqual(x, y) }) || g.Clean() != clean {
		t.Fatalf("of %v Clashes tells %v, Clean %v, want %v", p.Rules, l, g.Clean(), want)
	}
	if l := g.Rows(); !reflect.DeepEqual(l, rows) {
		t.Fatalf("of %v Rows tells %v, want %v", p.Rules, l, rows)
	}
	n.note(want)
}

func (n *counted) enough(t *testing.T, least int) {
	t.Helper()
	if min(n.plans/10, n.plain, n.clean, n.bad, n.several, n.refused, n.reduced) < least {
		t.Errorf("just %+v plans", *n)
	}
}

// planned is the plan of some levels and rules, if they are a grammar's of which Check tells nothing.
func planned(levels []api.Level, l ...api.Rule) (api.Plan, bool) {
	g := api.Grammar{Start: "S", Levels: levels, Rules: l}
	for _, name := range []string{"a", "b", "c"} {
		g.Tokens = append(g.Tokens, api.Token{Name: name, Pat: api.Pat{Text: name}})
	}
	p, e, _ := names.Of(g)
	if e != api.OK {
		return p, false
	}
	_, e = check.Check(p)
	return p, e == api.OK
}

// rules are all rules of some Lefts, whose Right has up to some number of some symbols.
func rules(lefts, symbols []string, wide int) []api.Rule {
	var all []api.Rule
	rights := [][]string{nil}
	for i := 0; i < len(rights); i++ {
		for _, left := range lefts {
			all = append(all, api.Rule{Left: left, Right: rights[i]})
		}
		for _, name := range symbols {
			if len(rights[i]) < wide {
				rights = append(rights, append(slices.Clone(rights[i]), name))
			}
		}
	}
	return all
}

// P14.2, P14.3, T4: all grammars of one rule, and of two, of up to two symbols, of two variables, and of two of up to three symbols, of one; with each of some levels.
func TestModelOfShortGrammars(t *testing.T) {
	n := &counted{}
	add := func(levels []api.Level, l ...api.Rule) {
		if p, is := planned(levels, l...); is {
			n.add(t, p)
		}
	}
	short, long := rules([]string{"S", "T"}, []string{"a", "b", "S", "T"}, 2), rules([]string{"S"}, []string{"a", "b", "S"}, 3)
	for _, levels := range [][]api.Level{
		nil,
		{{Assoc: api.None, Names: []string{"a", "b"}}},
		{{Assoc: api.Left, Names: []string{"b"}}, {Assoc: api.Right, Names: []string{"a"}}},
		{{Assoc: api.Left, Names: []string{"a"}}},
	} {
		for _, all := range [][]api.Rule{short, long} {
			for _, x := range all {
				add(levels, x)
				for _, y := range all {
					add(levels, x, y)
				}
			}
		}
	}
	n.several = n.plans // no short grammar is of that kind
	n.enough(t, 90)
}

// leveling is some levels by chance, of the tokens, and of names that are none.
func leveling(r *rand.Rand) []api.Level {
	var l []api.Level
	names := []string{"a", "b", "c", "x", "y"}
	r.Shuffle(len(names), func(i, j int) { names[i], names[j] = names[j], names[i] })
	for len(names) > 0 {
		n := 1 + r.Intn(len(names))
		if r.Intn(4) > 0 {
			l = append(l, api.Level{Assoc: 1 + r.Intn(3), Names: names[:n]})
		}
		names = names[n:]
	}
	return l
}

// ranked are the names of some levels, and empty ones among them.
func ranked(levels []api.Level) []string {
	l := []string{"", ""}
	for _, x := range levels {
		l = append(l, x.Names...)
	}
	return l
}

// mixed are rules by chance of some variables, of which each has one at least, and several are operators'.
func mixed(r *rand.Rand, vars, precs []string) []api.Rule {
	var l []api.Rule
	pick := func(l []string) string { return l[r.Intn(len(l))] }
	tokens := []string{"a", "b", "c"}
	for i := range min(api.MaxRules, len(vars)+1+r.Intn(3*len(vars))) {
		rule := api.Rule{Left: vars[i%len(vars)], Prec: pick(precs)}
		for range r.Intn(5) {
			rule.Right = append(rule.Right, pick([]string{pick(vars), pick(tokens)}))
		}
		if r.Intn(3) == 0 {
			rule.Right = []string{rule.Left, pick(tokens), pick([]string{rule.Left, pick(vars)})}
		}
		l = append(l, rule)
	}
	return append(l, api.Rule{Left: pick(vars), Right: []string{pick(tokens)}})
}

// P14.2, P14.3, T4: grammars by chance, with levels by chance.
func TestModelByChance(t *testing.T) {
	r := rand.New(rand.NewSource(14))
	n := &counted{}
	all := strings.Split("STUVWXYZ", "")
	for range 12000 {
		levels := leveling(r)
		if p, is := planned(levels, mixed(r, all[:1+r.Intn(5)], ranked(levels))...); is {
			if _, e := states.Build(p, 150, api.MaxCount); e == api.OK {
				n.add(t, p)
			}
		}
	}
	n.enough(t, 40)
}

// drive goes on by a grid as long as it can, and tells a tree as a text, if that is accepted. Each rule that is no token alone stands in parentheses.
func drive(t *testing.T, p api.Plan, g *resolve.Grid, tokens []int) (string, bool) {
	t.Helper()
	stack, parts := []int{0}, []string{}
	tokens = append(slices.Clone(tokens), 0)
	for range 100 * (1 + len(tokens)) {
		top := stack[len(stack)-1]
		switch x := g.At(top, tokens[0]); x.Kind {
		case api.ActShift:
			stack, parts, tokens = append(stack, x.N), append(parts, p.Terms[tokens[0]]), tokens[1:]
		case api.ActReduce:
			rule := p.Rules[x.N]
			at := len(parts) - len(rule.Right)
			part := strings.Join(parts[at:], "")
			if len(rule.Right) != 1 {
				part = "(" + part + ")"
			}
			stack, parts = stack[:at+1], append(parts[:at], part)
			stack = append(stack, g.Go(stack[at], rule.Left))
		case api.ActAccept:
			return parts[0], true
		default:
			return "", false
		}
	}
	t.Fatalf("%v goes on without end by %v", tokens, p.Rules)
	return "", false
}

// operators are an expression's: of the tokens 1 to 3 the levels of what stands between two expressions, and of what stands ahead of one, and of each level how it associates.
type operators struct {
	between, ahead [4]int
	assocs         []int
}

// climb reads an expression whose operators are of a level at least, as yacc's precedences say; ok is false where it can't go on. Tokens are taken off the list.
func (o operators) climb(tokens *[]int, least int) (s string, ok bool) {
	next := func() int {
		if len(*tokens) == 0 {
			return 0
		}
		return (*tokens)[0]
	}
	term := next()
	if term == 0 {
		return "", false
	}
	*tokens = (*tokens)[1:]
	s = "n"
	if term < 4 {
		inner, ok := o.climb(tokens, o.inner(o.ahead[term]))
		if !ok || o.ahead[term] == 0 || o.stuck(o.ahead[term], next()) {
			return "", false
		}
		s = "(" + strconv.Itoa(term) + inner + ")"
	}
	for term = next(); term > 0 && term < 4 && o.between[term] >= least; term = next() {
		*tokens = (*tokens)[1:]
		inner, ok := o.climb(tokens, o.inner(o.between[term]))
		if !ok || o.stuck(o.between[term], next()) {
			return "", false
		}
		s = "(" + s + strconv.Itoa(term) + inner + ")"
	}
	return s, true
}

// inner is the least level of operators that may stand in what comes behind one.
func (o operators) inner(level int) int {
	if o.assocs[level] == api.Right {
		return level
	}
	return level + 1
}

// stuck tells whether an operator may not come behind what one of a level ends.
func (o operators) stuck(level, term int) bool {
	return term > 0 && term < 4 && o.between[term] == level && o.assocs[level] == api.None
}

// grammar is the text of the operators' grammar: the tokens are 1 to 3, of which one may stand ahead of an expression, and n.
func (o operators) grammar() string {
	text := "%token a \"1\" %token b \"2\" %token c \"3\" %token n \"n\" "
	for level := 1; level < len(o.assocs); level++ {
		text += []string{"", "%left", "%right", "%nonassoc"}[o.assocs[level]] + " q" + strconv.Itoa(level)
		for term, l := range o.between {
			if l == level {
				text += " " + []string{"", "a", "b", "c"}[term]
			}
		}
		text += " "
	}
	text += "%% E : n"
	for term, name := range []string{"", "a", "b", "c"} {
		if o.between[term] > 0 {
			text += " | E " + name + " E"
		}
		if o.ahead[term] > 0 {
			text += " | " + name + " E %prec q" + strconv.Itoa(o.ahead[term])
		}
	}
	return text + " ;"
}

// P14.1, P14.2, T4: expressions by chance are read as their operators' precedences say: none clashes badly, and trees are those that climbing by levels finds.
func TestExpressions(t *testing.T) {
	r := rand.New(rand.NewSource(4))
	digits := strings.NewReplacer("a", "1", "b", "2", "c", "3")
	accepted, refused := 0, 0
	for range 400 {
		o := operators{assocs: []int{0}}
		for range 1 + r.Intn(4) {
			o.assocs = append(o.assocs, 1+r.Intn(3))
		}
		for term := 1; term < 4; term++ {
			o.between[term] = 1 + r.Intn(len(o.assocs)-1)
		}
		o.ahead[1+r.Intn(3)] = 1 + r.Intn(len(o.assocs)-1)
		p := read(t, o.grammar())
		_, g := made(t, p)
		if len(g.Clashes()) == 0 || !g.Clean() {
			t.Fatalf("%s has the clashes %v", o.grammar(), g.Clashes())
		}
		for range 100 {
			tokens := expression(r, o)
			rest := slices.Clone(tokens)
			want, ok := o.climb(&rest, 1)
			ok = ok && len(rest) == 0
			got, is := drive(t, p, g, tokens)
			if got = digits.Replace(got); is != ok || is && got != want {
				t.Fatalf("by %s %v is %q, %v, want %q, %v", o.grammar(), tokens, got, is, want, ok)
			}
			if ok {
				accepted++
			} else {
				refused++
			}
		}
	}
	if min(accepted, refused) < 5000 {
		t.Errorf("just %d were accepted, %d refused", accepted, refused)
	}
}

// expression is one by chance, at times with something wrong.
func expression(r *rand.Rand, o operators) []int {
	var l []int
	for i := range 1 + r.Intn(7) {
		if i > 0 {
			l = append(l, 1+r.Intn(3))
		}
		for term := 1; term < 4; term++ {
			if o.ahead[term] > 0 && r.Intn(3) == 0 {
				l = append(l, term)
			}
		}
		l = append(l, 4)
	}
	if r.Intn(8) == 0 {
		l[r.Intn(len(l))] = 1 + r.Intn(4)
	}
	return l
}

// language are all sentences of each symbol, of up to some number of terminals, as texts of letters.
func language(p api.Plan, most int) []map[string]bool {
	all := make([]map[string]bool, names.Accept(p)+1)
	for sym := range all {
		all[sym] = map[string]bool{}
		if names.Term(p, sym) {
			all[sym][names.Name(p, sym)] = true
		}
	}
	for had, has := -1, 0; had != has; {
		had, has = has, 0
		for _, r := range p.Rules {
			some := map[string]bool{"": true}
			for _, sym := range r.Right {
				longer := map[string]bool{}
				for x := range some {
					for y := range all[sym] {
						if len(x+y) <= most {
							longer[x+y] = true
						}
					}
				}
				some = longer
			}
			maps.Copy(all[r.Left], some)
		}
		for _, s := range all {
			has += len(s)
		}
	}
	return all
}

// T2: if nothing clashes just the sentences are accepted; so of all short texts.
func TestLanguages(t *testing.T) {
	r := rand.New(rand.NewSource(2))
	texts := []string{""}
	for i := 0; len(texts[i]) < 5; i++ {
		texts = append(texts, texts[i]+"a", texts[i]+"b", texts[i]+"c")
	}
	count, accepted := 0, 0
	for range 15000 {
		p, is := planned(nil, mixed(r, []string{"S", "T", "U"}[:1+r.Intn(3)], []string{""})...)
		if !is {
			continue
		}
		_, g := made(t, p)
		if len(g.Clashes()) > 0 {
			continue
		}
		sentences := language(p, 5)[names.Accept(p)]
		for _, s := range texts {
			var tokens []int
			for _, b := range []byte(s) {
				tokens = append(tokens, int(b-'a')+1)
			}
			_, is := drive(t, p, g, tokens)
			if is != sentences[s] {
				t.Fatalf("by %v %q is accepted: %v, want %v", p.Rules, s, is, sentences[s])
			}
			if is {
				accepted++
			}
		}
		count++
	}
	if count < 100 || accepted < 300 {
		t.Errorf("just %d grammars were without clashes, and %d texts accepted", count, accepted)
	}
}

// R1: of a plan that no grammar has nothing is promised, nor of another plan's automaton, but that each call ends.
func TestWrongPlans(t *testing.T) {
	r := rand.New(rand.NewSource(15))
	odd := func() int {
		if r.Intn(9) == 0 {
			return far[r.Intn(len(far))]
		}
		return r.Intn(12) - 1
	}
	some := func(n int) []int {
		var l []int
		for range r.Intn(n) {
			l = append(l, odd())
		}
		return l
	}
	ask := func(p api.Plan, a *states.Auto, l *look.Looks) {
		g := resolve.Of(p, a, l)
		askAll(t, g, a.Len(), len(p.Terms)+len(p.Vars)+1)
		for range 10 {
			g.At(odd(), odd())
			g.Go(odd(), odd())
			resolve.Keep(p, odd(), odd(), some(4))
			resolve.Decode(resolve.Code(api.Act{Kind: odd(), N: odd()}))
		}
	}
	before, _ := states.Build(api.Plan{}, 1, 1)
	looks := look.Of(api.Plan{}, before)
	for range 3000 {
		p := api.Plan{Terms: make([]string, r.Intn(4)), Vars: make([]string, r.Intn(8)), Levels: some(6), Assocs: some(6)}
		for range r.Intn(12) {
			p.Rules = append(p.Rules, api.Prod{Left: odd(), Right: some(5), Level: odd()})
		}
		ask(p, before, looks)
		if a, e := states.Build(p, 100, 1000); e == api.OK {
			ask(p, a, looks)
			ask(p, before, look.Of(p, a))
			ask(p, a, look.Of(p, a))
			before, looks = a, look.Of(p, a)
		}
	}
	ask(api.Plan{}, before, looks)
}
