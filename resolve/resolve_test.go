package resolve_test

import (
	"math"
	"reflect"
	"slices"
	"strconv"
	"strings"
	"testing"

	"tronage/api"
	"tronage/look"
	"tronage/names"
	"tronage/reader"
	"tronage/resolve"
	"tronage/states"
)

// read is the plan of a grammar's text.
func read(t *testing.T, text string) api.Plan {
	t.Helper()
	g, d := reader.Read(text)
	if d.Code != api.OK {
		t.Fatalf("%q is no grammar: %v", text, d)
	}
	p, e, name := names.Of(g)
	if e != api.OK {
		t.Fatalf("%q has no plan: %d, %q", text, e, name)
	}
	return p
}

// plan is the plan of some levels and rules, whose tokens are n, a, b and c, from 1 on; their first Left is 5.
func plan(t *testing.T, text string) api.Plan {
	t.Helper()
	return read(t, "%token n \"n\" %token a \"a\" %token b \"b\" %token c \"c\" "+text)
}

// made is a plan's automaton, whatever it costs, and its grid.
func made(t *testing.T, p api.Plan) (*states.Auto, *resolve.Grid) {
	t.Helper()
	a, e := states.Build(p, api.MaxCount, api.MaxCount)
	if e != api.OK {
		t.Fatalf("Build tells %d", e)
	}
	return a, resolve.Of(p, a, look.Of(p, a))
}

func shift(to int) api.Act { return api.Act{Kind: api.ActShift, N: to} }

func reduce(rule int) api.Act { return api.Act{Kind: api.ActReduce, N: rule} }

var (
	refuse = api.Act{Kind: api.ActError}
	accept = api.Act{Kind: api.ActAccept}
)

// path tells a state by the symbols by which it was found.
func path(p api.Plan, a *states.Auto, state int) string {
	s := "["
	for _, sym := range a.Path(state) {
		s += names.Name(p, sym)
	}
	return s + "]"
}

// act is an act as a text: where a shift goes, the number of a reduction's rule.
func act(p api.Plan, a *states.Auto, x api.Act) string {
	switch x.Kind {
	case api.ActShift:
		return path(p, a, x.N)
	case api.ActReduce:
		return strconv.Itoa(x.N)
	case api.ActAccept:
		return "yes"
	}
	return "no"
}

// shown is all that is done, as a text: of each state a line, that tells the path to it, with each terminal what is done, if it is not an error, and with each variable where it goes. The end is a dot.
func shown(p api.Plan, a *states.Auto, g *resolve.Grid) string {
	var lines []string
	for n := range a.Len() {
		parts := []string{path(p, a, n)}
		for sym := range names.Accept(p) {
			x := g.At(n, sym)
			if to := g.Go(n, sym); to >= 0 {
				x = shift(to)
			}
			if x != refuse {
				parts = append(parts, strings.Replace(names.Name(p, sym), "$end", ".", 1)+":"+act(p, a, x))
			}
		}
		lines = append(lines, strings.Join(parts, " "))
	}
	return strings.Join(lines, "\n")
}

// clashes are all clashes as a text, a line each: the path to the state, the terminal, the acts, what is kept, and whether that is bad.
func clashes(p api.Plan, a *states.Auto, g *resolve.Grid) string {
	var lines []string
	for _, c := range g.Clashes() {
		s := path(p, a, c.State) + " " + strings.Replace(names.Name(p, c.Term), "$end", ".", 1) + ":"
		if c.Shift != -1 {
			s += " " + act(p, a, shift(c.Shift))
		}
		for _, rule := range c.Rules {
			s += " " + strconv.Itoa(rule)
		}
		s += " = " + act(p, a, c.Kept)
		if c.Bad {
			s += " bad"
		}
		lines = append(lines, s)
	}
	return strings.Join(lines, "\n")
}

// does fails the test if of a plan other lines are shown.
func does(t *testing.T, p api.Plan, want ...string) {
	t.Helper()
	a, g := made(t, p)
	if s := shown(p, a, g); s != strings.Join(want, "\n") {
		t.Errorf("of %v is done\n%s\nwant\n%s", p.Rules, s, strings.Join(want, "\n"))
	}
}

// clash fails the test if of a plan other clashes are told, or not whether one of them is bad.
func clash(t *testing.T, p api.Plan, want ...string) {
	t.Helper()
	a, g := made(t, p)
	s := clashes(p, a, g)
	if s != strings.Join(want, "\n") {
		t.Errorf("of %v clash\n%s\nwant\n%s", p.Rules, s, strings.Join(want, "\n"))
	}
	if bad := strings.Contains(s, "bad"); g.Clean() == bad {
		t.Errorf("of %v Clean tells %v", p.Rules, g.Clean())
	}
}

// P14.1, P14.2: the chapter's first example.
func TestExampleWithLevel(t *testing.T) {
	p := plan(t, "%left a %% E : E a E | n ;")
	a, g := made(t, p)
	state := a.Walk(0, []int{5, 2, 5})
	if x := g.At(state, 2); x != reduce(1) {
		t.Errorf("At tells %v", x)
	}
	want := []api.Clash{{State: state, Term: 2, Shift: a.Go(state, 2), Rules: []int{1}, Kept: reduce(1)}}
	if l := g.Clashes(); !reflect.DeepEqual(l, want) || !g.Clean() {
		t.Errorf("Clashes tells %v, Clean %v", l, g.Clean())
	}
}

// P14.1, P14.2: the chapter's second example.
func TestExampleWithoutLevel(t *testing.T) {
	p := plan(t, "%% E : E a E | n ;")
	a, g := made(t, p)
	state := a.Walk(0, []int{5, 2, 5})
	to := a.Go(state, 2)
	if x := g.At(state, 2); x != shift(to) {
		t.Errorf("At tells %v", x)
	}
	want := []api.Clash{{State: state, Term: 2, Shift: to, Rules: []int{1}, Kept: shift(to), Bad: true}}
	if l := g.Clashes(); !reflect.DeepEqual(l, want) || g.Clean() {
		t.Errorf("Clashes tells %v, Clean %v", l, g.Clean())
	}
}

// keeps fails the test if something else is kept.
func keeps(t *testing.T, p api.Plan, term, to int, rules []int, want api.Act, wantBad bool) {
	t.Helper()
	if x, bad := resolve.Keep(p, term, to, rules); x != want || bad != wantBad {
		t.Errorf("of the shift to %d and the rules %v with %d Keep tells %v, %v, want %v, %v", to, rules, term, x, bad, want, wantBad)
	}
}

// far are numbers that none of a short grammar's states, symbols, or rules, has.
var far = []int{math.MinInt, -api.MaxCount, -64, -2, -1, 99, 1000, api.MaxCount, api.MaxCount + 1, math.MaxInt}

// leveled is a plan whose levels are 1 of n, 2 of a, 3 of b; rule 1 has the level 1, 2 has 2, 3 has 3, 4 and 5 have none; of the levels all associate in one way.
func leveled(t *testing.T, word string) api.Plan {
	t.Helper()
	return plan(t, word+" n "+word+" a "+word+" b %% E : E n E | E a E | E b E | E c E | ;")
}

// P14.1: of no act nothing is kept, of one that one; none of that is bad, whatever the levels are.
func TestKeepOneAtMost(t *testing.T) {
	for _, word := range []string{"%left", "%right", "%nonassoc"} {
		p := leveled(t, word)
		for _, term := range append([]int{0, 1, 2, 3, 4, 5, 6}, far...) {
			for _, no := range []int{-1, -2, math.MinInt} {
				keeps(t, p, term, no, nil, refuse, false)
				keeps(t, p, term, no, []int{}, refuse, false)
				keeps(t, p, term, no, []int{0}, accept, false)
				for _, rule := range append([]int{1, 2, 3, 4, 5, 6}, far...) {
					keeps(t, p, term, no, []int{rule}, reduce(rule), false)
				}
			}
			for _, to := range []int{0, 1, 7, api.MaxCount, math.MaxInt} {
				keeps(t, p, term, to, nil, shift(to), false)
				keeps(t, p, term, to, []int{}, shift(to), false)
			}
		}
	}
}

// P14.1: of a shift and one rule the greater level tells what is kept, however levels associate.
func TestKeepByGreaterLevel(t *testing.T) {
	for _, word := range []string{"%left", "%right", "%nonassoc"} {
		p := leveled(t, word)
		keeps(t, p, 1, 7, []int{2}, reduce(2), false)
		keeps(t, p, 1, 7, []int{3}, reduce(3), false)
		keeps(t, p, 2, 7, []int{3}, reduce(3), false)
		keeps(t, p, 2, 7, []int{1}, shift(7), false)
		keeps(t, p, 3, 7, []int{1}, shift(7), false)
		keeps(t, p, 3, 7, []int{2}, shift(7), false)
		keeps(t, p, 3, 0, []int{2}, shift(0), false)
	}
}

// P14.1: where both levels are the same, it is told by how that one associates, and by no other one.
func TestKeepByAssoc(t *testing.T) {
	for _, words := range [][3]string{{"%left", "%right", "%nonassoc"}, {"%right", "%nonassoc", "%left"}, {"%nonassoc", "%left", "%right"}} {
		p := plan(t, words[0]+" n "+words[1]+" a "+words[2]+" b %% E : E n E | E a E | E b E ;")
		for i, word := range words {
			want := map[string]api.Act{"%left": reduce(i + 1), "%right": shift(7), "%nonassoc": refuse}[word]
			keeps(t, p, i+1, 7, []int{i + 1}, want, false)
		}
	}
	// Several terminals, and rules, of one level; a rule that has it by its Prec.
	p := plan(t, "%left n a x %right b %% E : E n E | E a E | E b E %prec x | E c E %prec x | E %prec b ;")
	keeps(t, p, 1, 7, []int{2}, reduce(2), false)
	keeps(t, p, 2, 7, []int{1}, reduce(1), false)
	keeps(t, p, 1, 7, []int{4}, reduce(4), false)
	keeps(t, p, 3, 7, []int{3}, shift(7), false)
	keeps(t, p, 3, 7, []int{5}, shift(7), false)
	keeps(t, p, 1, 7, []int{5}, reduce(5), false)
}

// P14.1: without a level of the terminal, or of the rule, the shift is kept, and is bad; what is no terminal, or no rule, has none.
func TestKeepWithoutLevels(t *testing.T) {
	for _, word := range []string{"%left", "%right", "%nonassoc"} {
		p := leveled(t, word)
		for _, rule := range append([]int{0, 1, 2, 3, 4, 5, 6}, far...) {
			for _, term := range append([]int{0, 4, 5, 6}, far...) {
				keeps(t, p, term, 7, []int{rule}, shift(7), true)
			}
		}
		for _, rule := range append([]int{0, 4, 5, 6, 7}, far...) {
			for term := range 7 {
				keeps(t, p, term, 0, []int{rule}, shift(0), true)
			}
		}
	}
}

// P14.1: of more than one rule it is bad, whatever the levels are: the shift, if there is one, is kept, or else the least of the rules, in whatever order, and as often, they are handed in.
func TestKeepSeveral(t *testing.T) {
	for _, word := range []string{"%left", "%right", "%nonassoc"} {
		p := leveled(t, word)
		for term := -1; term < 8; term++ {
			for _, rules := range [][]int{{1, 2}, {2, 1}, {1, 1}, {3, 1, 2}, {2, 3, 1, 1}, {1, 99}, {5, 4, 3, 2, 1}} {
				keeps(t, p, term, 7, rules, shift(7), true)
				keeps(t, p, term, 0, rules, shift(0), true)
				keeps(t, p, term, -1, rules, reduce(1), true)
				keeps(t, p, term, math.MinInt, rules, reduce(1), true)
			}
			keeps(t, p, term, -1, []int{3, 3, 3}, reduce(3), true)
			keeps(t, p, term, -1, []int{5, 4}, reduce(4), true)
			keeps(t, p, term, -1, []int{math.MaxInt, 99}, reduce(99), true)
			keeps(t, p, term, -1, []int{1, -1, 0}, reduce(-1), true)
			for _, rules := range [][]int{{0, 0}, {0, 1}, {1, 0}, {2, 0, 1}} {
				keeps(t, p, term, -1, rules, accept, true)
				keeps(t, p, term, 3, rules, shift(3), true)
			}
		}
	}
}

// P14.2: without clashes there is a shift, a reduction, or nothing; and the rule 0 accepts.
func TestWithoutClash(t *testing.T) {
	does(t, plan(t, "%% S : a S | b ;"),
		"[] a:[a] b:[b] S:[S]",
		"[a] a:[a] b:[b] S:[aS]",
		"[b] .:2",
		"[S] .:yes",
		"[aS] .:1")
	clash(t, plan(t, "%% S : a S | b ;"))
	does(t, plan(t, "%% S : ;"), "[] .:1 S:[S]", "[S] .:yes")
	clash(t, plan(t, "%% S : ;"))
	does(t, plan(t, "%% S : T a | U b ; T : ; U : ;"),
		"[] a:3 b:4 S:[S] T:[T] U:[U]",
		"[S] .:yes",
		"[T] a:[Ta]",
		"[U] b:[Ub]",
		"[Ta] .:1",
		"[Ub] .:2")
	clash(t, plan(t, "%% S : T a | U b ; T : ; U : ;"))
}

// P14.2: a rule is done with its looks in that state alone, not with all that comes behind its Left: so nothing clashes.
func TestLooksOfStates(t *testing.T) {
	p := plan(t, "%% S : L a R | R ; L : b R | n ; R : L ;")
	does(t, p,
		"[] n:[n] b:[b] S:[S] L:[L] R:[R]",
		"[n] .:4 a:4",
		"[b] n:[n] b:[b] L:[bL] R:[bR]",
		"[S] .:yes",
		"[L] .:5 a:[La]",
		"[R] .:2",
		"[bL] .:5 a:5",
		"[bR] .:3 a:3",
		"[La] n:[n] b:[b] L:[bL] R:[LaR]",
		"[LaR] .:1")
	clash(t, p)
}

// P14.2: what levels tell is kept, error among it; a clash that they tell is not bad.
func TestByLevels(t *testing.T) {
	left := plan(t, "%left a %left b %% E : E a E | E b E | n ;")
	does(t, left,
		"[] n:[n] E:[E]",
		"[n] .:3 a:3 b:3",
		"[E] .:yes a:[Ea] b:[Eb]",
		"[Ea] n:[n] E:[EaE]",
		"[Eb] n:[n] E:[EbE]",
		"[EaE] .:1 a:1 b:[Eb]",
		"[EbE] .:2 a:2 b:2")
	clash(t, left,
		"[EaE] a: [Ea] 1 = 1",
		"[EaE] b: [Eb] 1 = [Eb]",
		"[EbE] a: [Ea] 2 = 2",
		"[EbE] b: [Eb] 2 = 2")
	clash(t, plan(t, "%right a %nonassoc b %% E : E a E | E b E | n ;"),
		"[EaE] a: [Ea] 1 = [Ea]",
		"[EaE] b: [Eb] 1 = [Eb]",
		"[EbE] a: [Ea] 2 = 2",
		"[EbE] b: [Eb] 2 = no")
	none := plan(t, "%nonassoc a b %% E : E a E | E b E | n ;")
	does(t, none,
		"[] n:[n] E:[E]",
		"[n] .:3 a:3 b:3",
		"[E] .:yes a:[Ea] b:[Eb]",
		"[Ea] n:[n] E:[EaE]",
		"[Eb] n:[n] E:[EbE]",
		"[EaE] .:1",
		"[EbE] .:2")
	clash(t, none,
		"[EaE] a: [Ea] 1 = no",
		"[EaE] b: [Eb] 1 = no",
		"[EbE] a: [Ea] 2 = no",
		"[EbE] b: [Eb] 2 = no")
	// A rule that begins with an operator, and has a level of its own.
	clash(t, plan(t, "%left a %left b %right x %% E : E a E | E b E | a E %prec x | n ;"),
		"[aE] a: [Ea] 3 = 3",
		"[aE] b: [Eb] 3 = 3",
		"[EaE] a: [Ea] 1 = 1",
		"[EaE] b: [Eb] 1 = [Eb]",
		"[EbE] a: [Ea] 2 = 2",
		"[EbE] b: [Eb] 2 = 2")
}

// P14.2: just some of several clashes are bad; then it is not clean.
func TestSomeBad(t *testing.T) {
	clash(t, plan(t, "%left a %% E : E a E | E b E | n ;"),
		"[EaE] a: [Ea] 1 = 1",
		"[EaE] b: [Eb] 1 = [Eb] bad",
		"[EbE] a: [Ea] 2 = [Ea] bad",
		"[EbE] b: [Eb] 2 = [Eb] bad")
	clash(t, plan(t, "%right b %% E : E a E %prec b | E b E | n ;"),
		"[EaE] a: [Ea] 1 = [Ea] bad",
		"[EaE] b: [Eb] 1 = [Eb]",
		"[EbE] a: [Ea] 2 = [Ea] bad",
		"[EbE] b: [Eb] 2 = [Eb]")
	// Of an if without an else: the else belongs to the last one, and is bad, if no levels say so.
	clash(t, plan(t, "%% S : a S | a S b S | n ;"), "[aS] b: [aSb] 1 = [aSb] bad")
	clash(t, plan(t, "%nonassoc a %nonassoc b %% S : a S | a S b S | n ;"), "[aS] b: [aSb] 1 = [aSb]")
	clash(t, plan(t, "%nonassoc b %nonassoc a %% S : a S | a S b S | n ;"), "[aS] b: [aSb] 1 = 1")
}

// P14.2: several rules clash, with a shift and without one; they rise; the least one is kept without a shift. Levels are of no help.
func TestSeveralRules(t *testing.T) {
	for _, levels := range []string{"", "%left n %left a ", "%right a %right n ", "%nonassoc n a "} {
		clash(t, plan(t, levels+"%% S : T | U ; T : n ; U : n ;"), "[n] .: 3 4 = 3 bad")
		clash(t, plan(t, levels+"%% S : V | U | T ; T : n ; V : n ; U : n ;"), "[n] .: 4 5 6 = 4 bad")
		clash(t, plan(t, levels+"%% S : T a | U a | n a ; T : n ; U : n ;"), "[n] a: [na] 4 5 = [na] bad")
		clash(t, plan(t, levels+"%% S : U a | T b | T a | U b | n b ; U : n ; T : n ;"),
			"[n] a: 6 7 = 6 bad",
			"[n] b: [nb] 6 7 = [nb] bad")
	}
	does(t, plan(t, "%% S : U a | T b | T a | U b | n b ; U : n ; T : n ;"),
		"[] n:[n] S:[S] U:[U] T:[T]",
		"[n] a:6 b:[nb]",
		"[S] .:yes",
		"[U] a:[Ua] b:[Ub]",
		"[T] a:[Ta] b:[Tb]",
		"[nb] .:5",
		"[Ua] .:1",
		"[Ub] .:4",
		"[Ta] .:3",
		"[Tb] .:2")
	// Rules of more digits than one rise as numbers.
	clash(t, plan(t, "%% S : n"+strings.Repeat(" | n", 11)+" ;"), "[n] .: 1 2 3 4 5 6 7 8 9 10 11 12 = 1 bad")
	// Two rules of nothing, where is begun.
	clash(t, plan(t, "%% S : T | U ; T : ; U : ;"), "[] .: 3 4 = 3 bad")
}

// P14.1, P14.2: the rule 0 clashes with others; what is accepted is kept, as 0 is the least.
func TestRuleZero(t *testing.T) {
	p := plan(t, "%% S : S | n ;")
	does(t, p, "[] n:[n] S:[S]", "[n] .:2", "[S] .:yes")
	clash(t, p, "[S] .: 0 1 = yes bad")
	// The terminal's level is of no help where the rule has none.
	clash(t, plan(t, "%left n %% S : T | n ; T : S | S n ;"), "[S] .: 0 3 = yes bad", "[S] n: [Sn] 3 = [Sn] bad")
}

// P14.2: clashes come by states, then by terminals.
func TestOrder(t *testing.T) {
	p := plan(t, "%% E : E c E | E a E | E b E | c E | n ;")
	_, g := made(t, p)
	l := g.Clashes()
	before := func(x, y api.Clash) int { return slices.Compare([]int{x.State, x.Term}, []int{y.State, y.Term}) }
	for i := range l[1:] {
		if before(l[i], l[i+1]) >= 0 {
			t.Errorf("%v comes ahead of %v", l[i], l[i+1])
		}
	}
	if len(l) != 12 {
		t.Errorf("there are %d clashes", len(l))
	}
}

// P14.2: of no state, no terminal, and no variable, there is no act, and nowhere to go.
func TestNoStateNoSymbol(t *testing.T) {
	p := plan(t, "%% S : a S | T ; T : b | ;")
	a, g := made(t, p)
	for n := range a.Len() {
		for _, sym := range append([]int{5, 6, 7, 8}, far...) {
			if x := g.At(n, sym); x != refuse {
				t.Errorf("in %d with %d At tells %v", n, sym, x)
			}
		}
		for _, sym := range append([]int{0, 1, 2, 3, 4, 7, 8}, far...) {
			if to := g.Go(n, sym); to != -1 {
				t.Errorf("from %d with %d Go tells %d", n, sym, to)
			}
		}
	}
	for _, n := range append([]int{a.Len(), a.Len() + 1}, far...) {
		for _, sym := range append([]int{0, 1, 2, 3, 4, 5, 6, 7}, far...) {
			if x, to := g.At(n, sym), g.Go(n, sym); x != refuse || to != -1 {
				t.Errorf("in no state %d with %d At tells %v, Go %d", n, sym, x, to)
			}
		}
	}
	if to := g.Go(a.Walk(0, []int{2}), 5); to != a.Walk(0, []int{2, 5}) || to < 0 {
		t.Errorf("Go tells %d", to)
	}
	if to := g.Go(a.Walk(0, []int{3}), 5); to != -1 {
		t.Errorf("from where it goes nowhere Go tells %d", to)
	}
}

// P14.3: acts' codes, and the acts of codes.
func TestCodes(t *testing.T) {
	for _, x := range []struct {
		act  api.Act
		code int
	}{
		{refuse, 0}, {accept, 1}, {shift(0), 2}, {reduce(0), 3}, {shift(1), 4}, {reduce(1), 5}, {shift(5), 12}, {reduce(5), 13},
		{shift(api.MaxCount - 1), 2 * api.MaxCount}, {reduce(api.MaxCount - 1), 2*api.MaxCount + 1},
		{shift(api.MaxCount), 2*api.MaxCount + 2}, {reduce(api.MaxCount), 2*api.MaxCount + 3},
	} {
		if code := resolve.Code(x.act); code != x.code {
			t.Errorf("of %v Code tells %d, want %d", x.act, code, x.code)
		}
		if got := resolve.Decode(x.code); got != x.act {
			t.Errorf("of %d Decode tells %v, want %v", x.code, got, x.act)
		}
	}
	for code := range 1000 {
		for _, n := range []int{code, 2*api.MaxCount + 3 - code} {
			if got := resolve.Code(resolve.Decode(n)); got != n {
				t.Errorf("%d comes back as %d", n, got)
			}
		}
	}
}

// P14.3: what is no act's code, and acts that have none.
func TestNoCodes(t *testing.T) {
	for _, code := range []int{-1, -2, -3, -4, math.MinInt, math.MinInt + 1, 2*api.MaxCount + 4, 2*api.MaxCount + 5, 3 * api.MaxCount, 1 << 62, 1<<62 + 1, math.MaxInt - 1, math.MaxInt} {
		if x := resolve.Decode(code); x != refuse {
			t.Errorf("of %d Decode tells %v", code, x)
		}
	}
	wrong := []int{math.MinInt, math.MinInt + 1, -1 << 62, -api.MaxCount, -2, -1, api.MaxCount + 1, 2 * api.MaxCount, 1 << 62, 1<<62 - 1, 1<<62 + 1, math.MaxInt - 1, math.MaxInt}
	for _, n := range wrong {
		if s, r := resolve.Code(shift(n)), resolve.Code(reduce(n)); s != 0 || r != 0 {
			t.Errorf("of %d Code tells %d of a shift, %d of a reduction", n, s, r)
		}
	}
	for _, n := range append(wrong, 0, 1, 2, 5, api.MaxCount) {
		if code := resolve.Code(api.Act{Kind: api.ActAccept, N: n}); code != 1 {
			t.Errorf("of accepting %d Code tells %d", n, code)
		}
		for _, kind := range []int{api.ActError, -1, -2, 4, 5, 9, math.MinInt, math.MaxInt} {
			if code := resolve.Code(api.Act{Kind: kind, N: n}); code != 0 {
				t.Errorf("of %d, %d Code tells %d", kind, n, code)
			}
		}
	}
}

// P14.3: rows have the terminals' codes, and then where one goes with the variables, one more.
func TestRows(t *testing.T) {
	for _, x := range []struct {
		rules string
		want  [][]int
	}{
		{"%% S : ;", [][]int{{5, 0, 0, 0, 0, 2}, {1, 0, 0, 0, 0, 0}}},
		// States: 0, a, b, S, aS.
		{"%% S : a S | b ;", [][]int{{0, 0, 4, 6, 0, 4}, {0, 0, 4, 6, 0, 5}, {7, 0, 0, 0, 0, 0}, {1, 0, 0, 0, 0, 0}, {5, 0, 0, 0, 0, 0}}},
		// States: 0, n, E, Ea, EaE.
		{"%left a %% E : E a E | n ;", [][]int{{0, 4, 0, 0, 0, 3}, {7, 0, 7, 0, 0, 0}, {1, 0, 8, 0, 0, 0}, {0, 4, 0, 0, 0, 5}, {5, 0, 5, 0, 0, 0}}},
		{"%nonassoc a %% E : E a E | n ;", [][]int{{0, 4, 0, 0, 0, 3}, {7, 0, 7, 0, 0, 0}, {1, 0, 8, 0, 0, 0}, {0, 4, 0, 0, 0, 5}, {5, 0, 0, 0, 0, 0}}},
		{"%% E : E a E | n ;", [][]int{{0, 4, 0, 0, 0, 3}, {7, 0, 7, 0, 0, 0}, {1, 0, 8, 0, 0, 0}, {0, 4, 0, 0, 0, 5}, {5, 0, 8, 0, 0, 0}}},
		// States: 0, S, T, U. It goes to the state 1 with S, with T to 2, with U to 3.
		{"%% S : T U ; T : ; U : ;", [][]int{{7, 0, 0, 0, 0, 2, 3, 0}, {1, 0, 0, 0, 0, 0, 0, 0}, {9, 0, 0, 0, 0, 0, 0, 4}, {5, 0, 0, 0, 0, 0, 0, 0}}},
	} {
		if _, g := made(t, plan(t, x.rules)); !reflect.DeepEqual(g.Rows(), x.want) {
			t.Errorf("of %q Rows tells %v, want %v", x.rules, g.Rows(), x.want)
		}
	}
}

// scribble changes a list, and what lies behind it.
func scribble[T any](l []T) {
	clear(l)
	var x T
	_ = append(l, x, x, x)
}

// R5, and the language's rule 7: no call changes a plan, an automaton, looks, or a list of rules, nor keeps a list of theirs.
func TestNothingHandedInIsChanged(t *testing.T) {
	text := "%left a %right b %% E : E a E | E b E | E c E | T | U ; T : n ; U : n ;"
	p, was := plan(t, text), plan(t, text)
	a, g := made(t, p)
	l := look.Of(p, a)
	want := shown(was, a, g) + clashes(was, a, g)
	rules := []int{3, 1, 2, 1}
	resolve.Keep(p, 2, -1, rules)
	resolve.Keep(p, 2, 7, rules)
	if !slices.Equal(rules, []int{3, 1, 2, 1}) || !reflect.DeepEqual(p, was) {
		t.Errorf("rules are %v, the plan is %v", rules, p)
	}
	before := [][]int{l.Done(1), l.At(1, 5), a.Path(4)}
	resolve.Of(p, a, l)
	if after := [][]int{l.Done(1), l.At(1, 5), a.Path(4)}; !reflect.DeepEqual(before, after) {
		t.Errorf("looks and paths are %v, and were %v", after, before)
	}
	for _, r := range p.Rules {
		scribble(r.Right)
	}
	scribble(p.Rules)
	scribble(p.Terms)
	scribble(p.Vars)
	scribble(p.Levels)
	scribble(p.Assocs)
	if s := shown(was, a, g) + clashes(was, a, g); s != want {
		t.Errorf("behind changes of the plan are told\n%s\nwant\n%s", s, want)
	}
}

// The language's rule 7: whoever changes an answer changes nothing else, not even in the same answer.
func TestAnswersAreApart(t *testing.T) {
	p := plan(t, "%left a %right b %% E : E a E | E b E | E c E | T | U | V ; T : n ; U : n ; V : n ;")
	a, g := made(t, p)
	want, rows := shown(p, a, g)+clashes(p, a, g), g.Rows()
	for i := range g.Clashes() {
		l, whole := g.Clashes(), g.Clashes()
		scribble(l[i].Rules)
		for k := range l {
			if k != i && !reflect.DeepEqual(l[k], whole[k]) {
				t.Errorf("a change of clash %d's rules makes %v of %v", i, l[k], whole[k])
			}
		}
		scribble(l)
	}
	for i := range rows {
		l := g.Rows()
		scribble(l[i])
		for k := range l {
			if k != i && !slices.Equal(l[k], rows[k]) {
				t.Errorf("a change of row %d makes %v of %v", i, l[k], rows[k])
			}
		}
		scribble(l)
	}
	if s := shown(p, a, g) + clashes(p, a, g); s != want || !reflect.DeepEqual(g.Rows(), rows) {
		t.Errorf("behind changes of answers are told\n%s\nwant\n%s", s, want)
	}
}

// askAll asks for all that there may be to tell, and for what there is not.
func askAll(t *testing.T, g *resolve.Grid, n, symbols int) {
	t.Helper()
	for state := -1; state <= n; state++ {
		for sym := -1; sym <= symbols; sym++ {
			g.At(state, sym)
			g.Go(state, sym)
		}
	}
	g.Clashes()
	g.Clean()
	g.Rows()
}

// R1: of another plan's automaton, or looks, nothing is promised, but that the calls end; so of none.
func TestOtherPlans(t *testing.T) {
	var plans []api.Plan
	for _, rules := range []string{
		"%% S : ;", "%% S : a S | b ;", "%left a %% S : S a S | S b S | n ;", "%% S : T | U ; T : n ; U : n ;",
		"%% S : a b c a b c a b | T S ; T : S S S S S S S S | ;", "%% S : a ; T : b ; U : c T ;", "%% S : a T ; T : T b ;",
	} {
		plans = append(plans, plan(t, rules))
	}
	plans = append(plans, read(t, "%% S : S S | ;"), read(t, "%token a \"a\" %% S : T ; T : U a ; U : V ; V : T | ;"), api.Plan{})
	for _, p := range plans {
		for _, x := range plans {
			a, e := states.Build(x, api.MaxCount, api.MaxCount)
			if e != api.OK {
				t.Fatal(e)
			}
			for _, y := range plans {
				b, _ := states.Build(y, api.MaxCount, api.MaxCount)
				askAll(t, resolve.Of(p, a, look.Of(y, b)), a.Len(), 12)
			}
			for _, g := range []*resolve.Grid{resolve.Of(p, nil, look.Of(x, a)), resolve.Of(p, a, nil), resolve.Of(p, nil, nil), new(resolve.Grid)} {
				askAll(t, g, 2, 12)
				if len(g.Rows()) > 0 || len(g.Clashes()) > 0 || !g.Clean() {
					t.Errorf("of no states Rows tells %v, Clashes %v, Clean %v", g.Rows(), g.Clashes(), g.Clean())
				}
			}
		}
	}
}

// full is the plan of as many tokens, levels and rules as may be: an expression's, with a rule of each operator, and as many of nothing but a token.
func full(t *testing.T) api.Plan {
	text := ""
	for i := range api.MaxTokens {
		name := "t" + strconv.Itoa(i)
		text += "%token " + name + " \"" + name + "\" "
	}
	for i := range api.MaxLevels {
		word := []string{"%left", "%right", "%nonassoc"}[i%3]
		text += word + " t" + strconv.Itoa(2*i) + " t" + strconv.Itoa(2*i+1) + " "
	}
	text += "%% E :"
	for i := range api.MaxRules / 2 {
		text += " E t" + strconv.Itoa(i) + " E | t" + strconv.Itoa(i) + " |"
	}
	return read(t, strings.TrimSuffix(text, "|")+";")
}

// P14.2: as many tokens, levels and rules as may be; each operator clashes with each, and all is told by the levels.
func TestFullPlan(t *testing.T) {
	p := full(t)
	a, g := made(t, p)
	if len(p.Rules) != api.MaxRules+1 || len(g.Clashes()) != api.MaxTokens*api.MaxTokens || !g.Clean() {
		t.Fatalf("of %d rules there are %d clashes, Clean tells %v", len(p.Rules), len(g.Clashes()), g.Clean())
	}
	for i := range api.MaxTokens {
		state := a.Walk(0, []int{api.MaxTokens + 1, i + 1, api.MaxTokens + 1})
		for k := range api.MaxTokens {
			same := []api.Act{reduce(2*i + 1), shift(a.Go(state, k+1)), refuse}
			want := same[i/2%3]
			if i/2 != k/2 {
				want = same[min(1, max(0, k/2-i/2))]
			}
			if x := g.At(state, k+1); x != want {
				t.Errorf("behind the operator %d, with %d, At tells %v, want %v", i, k, x, want)
			}
		}
	}
}

// P14.2, P14.3: an automaton may have many states: they have to know which of so many symbols behind one another were an a.
func TestManyStates(t *testing.T) {
	const n = 10
	text := "%% S : a S | b S | a A0 ; "
	for i := range n {
		to := "A" + strconv.Itoa(i+1)
		text += "A" + strconv.Itoa(i) + " : a " + to + " | b " + to + " ; "
	}
	p := plan(t, text+"A"+strconv.Itoa(n)+" : c ;")
	a, g := made(t, p)
	rows := g.Rows()
	if a.Len() < 1<<n || len(rows) != a.Len() || len(g.Clashes()) > 0 || !g.Clean() {
		t.Fatalf("there are %d states, %d rows, and the clashes %v", a.Len(), len(rows), g.Clashes())
	}
	for state, row := range rows {
		for sym, n := range row {
			if names.Term(p, sym) && resolve.Decode(n) != g.At(state, sym) || !names.Term(p, sym) && n-1 != g.Go(state, sym) {
				t.Fatalf("in %d with %d Rows tells %d, At %v, Go %d", state, sym, n, g.At(state, sym), g.Go(state, sym))
			}
		}
	}
}
