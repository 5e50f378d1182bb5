package states_test

import (
	"math"
	"slices"
	"strconv"
	"strings"
	"testing"

	"tronage/api"
	"tronage/names"
	"tronage/reader"
	"tronage/states"
)

// read is the plan of a grammar's text.
func read(t *testing.T, text string) api.Plan {
	t.Helper()
	g, d := reader.Read(text)
	if d.Code != api.OK {
		t.Fatalf("%q is no grammar: %v", text, d)
	}
	p, e, name := names.Of(g)
	if e != api.OK {
		t.Fatalf("%q has no plan: %d, %q", text, e, name)
	}
	return p
}

// plan is the plan of some rules, whose tokens are a, b and c, from 1 on; their first Left is 4.
func plan(t *testing.T, rules string) api.Plan {
	t.Helper()
	return read(t, "%token a \"a\" %token b \"b\" %token c \"c\" "+rules)
}

// built is a plan's automaton, whatever it costs.
func built(t *testing.T, p api.Plan) *states.Auto {
	t.Helper()
	a, e := states.Build(p, api.MaxCount, api.MaxCount)
	if e != api.OK || a == nil {
		t.Fatalf("Build tells %d", e)
	}
	return a
}

// shown is an automaton as a text, a state a line: its items, each a rule and a dot, with a star if the kernel has it; and each symbol with which it goes, and where to.
func shown(t *testing.T, p api.Plan, a *states.Auto) string {
	t.Helper()
	var lines []string
	for n := range a.Len() {
		var l []string
		kernel := a.Kernel(n)
		for _, i := range a.Items(n) {
			star := ""
			if len(kernel) > 0 && kernel[0] == i {
				star, kernel = "*", kernel[1:]
			}
			l = append(l, star+strconv.Itoa(i.Rule)+"."+strconv.Itoa(i.Dot))
		}
		if len(kernel) > 0 {
			t.Errorf("%v of the kernel of %d is not among its items, or not in order", kernel, n)
		}
		l = append(l, ":")
		for _, e := range a.Edges(n) {
			l = append(l, names.Name(p, e.Sym)+strconv.Itoa(e.To))
		}
		lines = append(lines, strings.Join(l, " "))
	}
	return strings.Join(lines, "\n")
}

// tells fails the test if the automaton of some rules is not that which is asked for.
func tells(t *testing.T, rules string, want ...string) {
	t.Helper()
	p := plan(t, rules)
	a := built(t, p)
	total := strings.Count(strings.Join(want, ""), ".")
	if s := shown(t, p, a); s != strings.Join(want, "\n") {
		t.Errorf("of %q the states are\n%s\nwant\n%s", rules, s, strings.Join(want, "\n"))
	}
	if a.Len() != len(want) || a.Total() != total {
		t.Errorf("%q has %d states, %d items, want %d, %d", rules, a.Len(), a.Total(), len(want), total)
	}
}

// P11.1, P11.2: the chapter's example.
func TestExample(t *testing.T) {
	rules := "%% S : a S | b ;"
	tells(t, rules,
		"*0.0 1.0 2.0 : a1 b2 S3",
		"1.0 *1.1 2.0 : a1 b2 S4",
		"*2.1 :",
		"*0.1 :",
		"*1.2 :")
	if a, e := states.Build(plan(t, rules), 4, api.MaxCount); a != nil || e != api.ErrQuota {
		t.Errorf("with 4 states Build tells %v, %d", a, e)
	}
}

// P11.2: an item of a rule of nothing has its dot at the end at once: it is in closures, and in no kernel, and nothing goes on with it.
func TestRulesOfNothing(t *testing.T) {
	tells(t, "%% S : ;", "*0.0 1.0 : S1", "*0.1 :")
	tells(t, "%% S : T T ; T : ;",
		"*0.0 1.0 2.0 : S1 T2",
		"*0.1 :",
		"*1.1 2.0 : T3",
		"*1.2 :")
	tells(t, "%% S : | a S | T ; T : ;",
		"*0.0 1.0 2.0 3.0 4.0 : a1 S2 T3",
		"1.0 2.0 *2.1 3.0 4.0 : a1 S4 T3",
		"*0.1 :",
		"*3.1 :",
		"*2.2 :")
}

// P11.2: an item's closure has the item's own rule again, with the dot 0, if its variable begins it; once, however often it is asked for.
func TestLeftRecursion(t *testing.T) {
	tells(t, "%% S : S a | ;", "*0.0 1.0 2.0 : S1", "*0.1 *1.1 : a2", "*1.2 :")
	tells(t, "%% S : S ;", "*0.0 1.0 : S1", "*0.1 *1.1 :")
	tells(t, "%% S : S S | S ;",
		"*0.0 1.0 2.0 : S1",
		"*0.1 1.0 *1.1 2.0 *2.1 : S2",
		"1.0 *1.1 *1.2 2.0 *2.1 : S2")
	tells(t, "%% S : T a ; T : S b | c ;",
		"*0.0 1.0 2.0 3.0 : c1 S2 T3",
		"*3.1 :",
		"*0.1 *2.1 : b4",
		"*1.1 : a5",
		"*2.2 :",
		"*1.2 :")
}

// P11.2: states are found by their kernels again, from wherever one comes; also a state from itself.
func TestFoundAgain(t *testing.T) {
	tells(t, "%% S : a T | b T | a S ; T : c ;",
		"*0.0 1.0 2.0 3.0 : a1 b2 S3",
		"1.0 *1.1 2.0 3.0 *3.1 4.0 : a1 b2 c4 S5 T6",
		"*2.1 4.0 : c4 T7",
		"*0.1 :",
		"*4.1 :",
		"*3.2 :",
		"*1.2 :",
		"*2.2 :")
}

// P11.2, and the chapter's word "from a state": states with the same items but another kernel are two; so are kernels of which one has more.
func TestNotTheSame(t *testing.T) {
	tells(t, "%% S : a | b a | c S b a ;",
		"*0.0 1.0 2.0 3.0 : a1 b2 c3 S4",
		"*1.1 :",
		"*2.1 : a5",
		"1.0 2.0 3.0 *3.1 : a1 b2 c3 S6",
		"*0.1 :",
		"*2.2 :",
		"*3.2 : b7",
		"*3.3 : a8",
		"*3.4 :")
	tells(t, "%% S : a b | a c S | c a b ;",
		"*0.0 1.0 2.0 3.0 : a1 c2 S3",
		"*1.1 *2.1 : b4 c5",
		"*3.1 : a6",
		"*0.1 :",
		"*1.2 :",
		"1.0 2.0 *2.2 3.0 : a1 c2 S7",
		"*3.2 : b8",
		"*2.3 :",
		"*3.3 :")
}

// P11.2: numbers are given from each state by rising symbols, terminals ahead of variables, in whatever order rules have them; one state's are all given ahead of the next one's.
func TestOrderOfStates(t *testing.T) {
	tells(t, "%% S : T U c | U T b | c | b | a ; U : b ; T : b b ;",
		"*0.0 1.0 2.0 3.0 4.0 5.0 6.0 7.0 : a1 b2 c3 S4 U5 T6",
		"*5.1 :",
		"*4.1 *6.1 *7.1 : b7",
		"*3.1 :",
		"*0.1 :",
		"*2.1 7.0 : b8 T9",
		"*1.1 6.0 : b10 U11",
		"*7.2 :",
		"*7.1 : b7",
		"*2.2 : b12",
		"*6.1 :",
		"*1.2 : c13",
		"*2.3 :",
		"*1.3 :")
}

// P11.2: it is the variable with which is begun whose rules stand in the state 0; rules that are never come to are in no state; variables that make no sentence are as others.
func TestStart(t *testing.T) {
	rules := "%% S : a T ; T : b | T ; U : U c ;"
	tells(t, "%start S "+rules, "*0.0 1.0 : a1 S2", "*1.1 2.0 3.0 : b3 T4", "*0.1 :", "*2.1 :", "*1.2 *3.1 :")
	tells(t, "%start T "+rules, "*0.0 2.0 3.0 : b1 T2", "*2.1 :", "*0.1 *3.1 :")
	tells(t, "%start U "+rules, "*0.0 4.0 : U1", "*0.1 *4.1 : c2", "*4.2 :")
}

// P11.2: numbers of rules and dots of more than one digit keep their order, and are told apart; rules that are the same are two.
func TestManyRules(t *testing.T) {
	rules := "%% S : a S "
	for range 11 {
		rules += "| a S "
	}
	tells(t, rules+"| b ;",
		"*0.0 1.0 2.0 3.0 4.0 5.0 6.0 7.0 8.0 9.0 10.0 11.0 12.0 13.0 : a1 b2 S3",
		"1.0 *1.1 2.0 *2.1 3.0 *3.1 4.0 *4.1 5.0 *5.1 6.0 *6.1 7.0 *7.1 8.0 *8.1 9.0 *9.1 10.0 *10.1 11.0 *11.1 12.0 *12.1 13.0 : a1 b2 S4",
		"*13.1 :",
		"*0.1 :",
		"*1.2 *2.2 *3.2 *4.2 *5.2 *6.2 *7.2 *8.2 *9.2 *10.2 *11.2 *12.2 :")
}

// full is the plan of as many tokens and rules as may be, each rule of as many symbols as may be.
func full(t *testing.T) api.Plan {
	text := ""
	for i := range api.MaxTokens {
		name := "t" + strconv.Itoa(i)
		text += "%token " + name + " \"" + name + "\" "
	}
	text += "%% "
	for i := range api.MaxRules {
		text += "V" + strconv.Itoa(i) + " :" + strings.Repeat(" V"+strconv.Itoa((i+1)%api.MaxRules), api.MaxRight-1) + " t" + strconv.Itoa(i%api.MaxTokens) + " ; "
	}
	return read(t, text)
}

// P11.1, P11.2: as many rules and symbols as may be, each variable behind the one ahead of it.
func TestFullPlan(t *testing.T) {
	p := full(t)
	a := built(t, p)
	// Behind a rule's variable that rule may begin again, so its kernels are of the dot 1 alone, of 1 and 2, and so on up to 7; and of 8 alone. Beside these is the state 0, and that which has the accepted one's end as well as the last rule's dot 1.
	if want := 1 + 1 + api.MaxRules*api.MaxRight; a.Len() != want || len(a.Edges(0)) != api.MaxRules || len(a.Items(0)) != api.MaxRules+1 {
		t.Errorf("there are %d states, of 0 %d edges and %d items; want %d states", a.Len(), len(a.Edges(0)), len(a.Items(0)), want)
	}
	// All of these but those of 8 alone have all rules' beginnings.
	if want := (1 + api.MaxRules) + (2 + api.MaxRules) + api.MaxRules*((1+2+3+4+5+6+7)+7*api.MaxRules+1); a.Total() != want {
		t.Errorf("there are %d items, want %d", a.Total(), want)
	}
	again, e := states.Build(p, a.Len(), a.Total())
	if e != api.OK || shown(t, p, again) != shown(t, p, a) {
		t.Errorf("with just as many Build tells %d, and other states", e)
	}
}

// P11.1: as many states and items as there are, are enough; one less of either is not; limits are held as counts.
func TestQuota(t *testing.T) {
	for _, x := range []struct {
		rules                        string
		states, items, first, second int // how many there are, and how many items the states 0 and 1 have
	}{
		{"%% S : a S | b ;", 5, 9, 3, 3},
		{"%% S : ;", 2, 3, 2, 1},
		{"%% S : S S | S ;", 3, 13, 3, 5},
	} {
		p := plan(t, x.rules)
		for _, states := range []int{x.states, x.states + 1, api.MaxCount, api.MaxCount + 1, math.MaxInt} {
			for _, items := range []int{x.items, x.items + 1, api.MaxCount, api.MaxCount + 1, math.MaxInt} {
				limited(t, p, states, items, api.OK)
			}
			for _, items := range []int{x.items - 1, x.first + x.second - 1, x.first, x.first - 1, 1, 0, -1, -api.MaxCount, math.MinInt} {
				limited(t, p, states, items, api.ErrQuota)
			}
		}
		for _, states := range []int{x.states - 1, 1, 0, -1, -5, -api.MaxCount, math.MinInt} {
			for _, items := range []int{math.MinInt, -1, 0, 1, x.items - 1, x.items, x.items + 1, api.MaxCount, math.MaxInt} {
				limited(t, p, states, items, api.ErrQuota)
			}
		}
	}
}

// limited fails the test if Build tells another error with some limits, or, with none, another automaton than without limits.
func limited(t *testing.T, p api.Plan, most, items int, want api.Errno) {
	t.Helper()
	a, e := states.Build(p, most, items)
	switch {
	case e != want:
		t.Errorf("with %d states, %d items Build tells %d, want %d", most, items, e, want)
	case e != api.OK && a != nil:
		t.Errorf("with %d states, %d items Build tells an error, and an automaton", most, items)
	case e == api.OK && shown(t, p, a) != shown(t, p, built(t, p)):
		t.Errorf("with %d states, %d items there are others than without limits", most, items)
	}
}

// doubling is a plan whose states have to know which of so many symbols, and one more, behind one another were an a.
func doubling(t *testing.T, n int) api.Plan {
	text := "%% S : a S | b S | a A0 ; "
	for i := range n {
		to := "A" + strconv.Itoa(i+1)
		text += "A" + strconv.Itoa(i) + " : a " + to + " | b " + to + " ; "
	}
	return plan(t, text+"A"+strconv.Itoa(n)+" : c ;")
}

// P11.1: however many states a grammar has, no more are made than may be: it is refused as soon as there are more.
func TestTooManyToWaitFor(t *testing.T) {
	p := doubling(t, 18)
	limited(t, p, 1000, math.MaxInt, api.ErrQuota)
	limited(t, p, math.MaxInt, 10000, api.ErrQuota)
	for n := 1; n < 10; n++ {
		if is, want := built(t, doubling(t, n)).Len(), 1<<(n+1); is < want {
			t.Errorf("of %d variables there are %d states, want at least %d", n, is, want)
		}
	}
}

// P11.2, P11.3: of no state there is nothing, and from none one comes nowhere; so with no edge's symbol, and with what is no symbol.
func TestNoState(t *testing.T) {
	a := built(t, plan(t, "%% S : a S | b ;")) // S is 4, the accepted one 5
	for _, n := range []int{math.MinInt, -api.MaxCount, -2, -1, 5, 6, 63, api.MaxCount, math.MaxInt} {
		if len(a.Kernel(n)) != 0 || len(a.Items(n)) != 0 || len(a.Edges(n)) != 0 || len(a.Path(n)) != 0 {
			t.Errorf("of no state %d Kernel, Items, Edges, Path tell %v, %v, %v, %v", n, a.Kernel(n), a.Items(n), a.Edges(n), a.Path(n))
		}
		for _, sym := range []int{0, 1, 2, 4, -1} {
			if to := a.Go(n, sym); to != -1 {
				t.Errorf("from no state %d one comes to %d with %d", n, to, sym)
			}
			if to := a.Walk(n, []int{sym}); to != -1 {
				t.Errorf("from no state %d one walks to %d with %d", n, to, sym)
			}
		}
		if to := a.Walk(n, nil); to != -1 {
			t.Errorf("from no state %d one walks to %d with nothing", n, to)
		}
	}
	for n := range 5 {
		for _, sym := range []int{math.MinInt, -api.MaxCount, -4, -1, 0, 3, 5, 6, 64, api.MaxCount, math.MaxInt} {
			if to := a.Go(n, sym); to != -1 {
				t.Errorf("from %d one comes to %d with %d", n, to, sym)
			}
			if to := a.Walk(n, []int{sym}); to != -1 {
				t.Errorf("from %d one walks to %d with %d", n, to, sym)
			}
		}
	}
}

// P11.2: Go tells where each edge goes.
func TestGo(t *testing.T) {
	a := built(t, plan(t, "%% S : a S | b ;"))
	for n, want := range [][]int{{-1, 1, 2, -1, 3, -1}, {-1, 1, 2, -1, 4, -1}, {-1, -1, -1, -1, -1, -1}, {-1, -1, -1, -1, -1, -1}, {-1, -1, -1, -1, -1, -1}} {
		for sym, to := range want {
			if got := a.Go(n, sym); got != to {
				t.Errorf("from %d one comes to %d with %d, want %d", n, got, sym, to)
			}
		}
	}
}

// P11.3: Walk goes on symbol by symbol; with nothing one stays; once there is nothing to go to nothing that is behind it brings one back.
func TestWalk(t *testing.T) {
	a := built(t, plan(t, "%% S : a S | b ;"))
	long := slices.Repeat([]int{1}, 100000)
	for _, x := range []struct {
		from int
		seq  []int
		want int
	}{
		{0, nil, 0},
		{0, []int{}, 0},
		{3, nil, 3},
		{4, []int{}, 4},
		{0, []int{1}, 1},
		{0, []int{4}, 3},
		{0, []int{1, 4}, 4},
		{0, []int{1, 1, 1, 2}, 2},
		{1, []int{1, 1, 4}, 4},
		{0, append(slices.Clone(long), 4), 4},
		{0, append(slices.Clone(long), 0), -1},
		{0, append([]int{2}, long...), -1},
		{0, append([]int{9}, long...), -1},
		{0, []int{2, 1}, -1},
		{0, []int{1, 2, 4}, -1},
		{0, []int{1, 3, 4}, -1},
		{0, []int{0, 1}, -1},
		{3, []int{0}, -1},
		{4, []int{4}, -1},
		{0, []int{1, 5}, -1},
		{1, []int{-1, 1}, -1},
		{0, []int{math.MaxInt, math.MinInt}, -1},
	} {
		seq := slices.Clone(x.seq)
		if to := a.Walk(x.from, seq); to != x.want {
			t.Errorf("from %d one walks to %d with the first of %v, want %d", x.from, to, x.seq[:min(4, len(x.seq))], x.want)
		}
		if !slices.Equal(seq, x.seq) {
			t.Errorf("Walk has changed what was handed in to %v", seq[:min(4, len(seq))])
		}
	}
}

// P11.3: Path tells the symbols by which a state was found: of several states that go to it, itself among them, those of the one from which it was found first.
func TestPath(t *testing.T) {
	for _, x := range []struct {
		rules string
		want  [][]int // of each state, from 0 on
	}{
		{"%% S : ;", [][]int{nil, {4}}},
		{"%% S : a S | b ;", [][]int{nil, {1}, {2}, {4}, {1, 4}}},
		// S is 4, T 5: the state of T : c is gone to from that of a, and from that of b.
		{"%% S : a T | b T | a S ; T : c ;", [][]int{nil, {1}, {2}, {4}, {1, 3}, {1, 4}, {1, 5}, {2, 5}}},
		// The state of T : c is found from that of b, as that of a goes nowhere with c.
		{"%% S : a a T | b T ; T : c ;", [][]int{nil, {1}, {2}, {4}, {1, 1}, {2, 3}, {2, 5}, {1, 1, 5}}},
		// It goes to itself.
		{"%% S : S S | a ;", [][]int{nil, {1}, {4}, {4, 4}}},
	} {
		a := built(t, plan(t, x.rules))
		if a.Len() != len(x.want) {
			t.Errorf("%q has %d states, want %d", x.rules, a.Len(), len(x.want))
		}
		for n, path := range x.want {
			if l := a.Path(n); !slices.Equal(l, path) {
				t.Errorf("of %q the path of %d is %v, want %v", x.rules, n, l, path)
			}
		}
	}
}

// P11.3: a path may be as long as rules make it.
func TestLongPath(t *testing.T) {
	text := "%% "
	for i := range api.MaxRules - 1 {
		text += "V" + strconv.Itoa(i) + " : a b a b a b a V" + strconv.Itoa(i+1) + " ; "
	}
	a := built(t, plan(t, text+"V"+strconv.Itoa(api.MaxRules-1)+" : c ;"))
	longest := 0
	for n := range a.Len() {
		l := a.Path(n)
		longest = max(longest, len(l))
		if to := a.Walk(0, l); to != n {
			t.Errorf("by the path of %d one comes to %d", n, to)
		}
	}
	if want := 7*(api.MaxRules-1) + 1; longest != want {
		t.Errorf("the longest path has %d symbols, want %d", longest, want)
	}
}

// scribble changes a list, and what lies behind it.
func scribble[T any](l []T) {
	clear(l)
	var x T
	_ = append(l, x, x, x)
}

// R5, and the language's rule 7: Build changes no plan, and keeps none; whoever changes an answer changes nothing else.
func TestApart(t *testing.T) {
	rules := "%% S : S S T | S T | a S | ; T : b T | T c ;"
	p := plan(t, rules)
	a := built(t, p)
	want := shown(t, p, a)
	var paths [][]int
	for n := range a.Len() {
		paths = append(paths, a.Path(n))
	}
	for i, r := range plan(t, rules).Rules {
		if r.Left != p.Rules[i].Left || !slices.Equal(r.Right, p.Rules[i].Right) {
			t.Errorf("rule %d is %v now", i, p.Rules[i])
		}
		scribble(p.Rules[i].Right)
	}
	scribble(p.Rules)
	scribble(p.Terms)
	scribble(p.Vars)
	p = plan(t, rules)
	for n := range a.Len() {
		scribble(a.Kernel(n))
		scribble(a.Items(n))
		scribble(a.Edges(n))
		scribble(a.Path(n))
	}
	other := built(t, p)
	for n := range a.Len() {
		if l := a.Path(n); !slices.Equal(l, paths[n]) {
			t.Errorf("the path of %d was %v, and is %v", n, paths[n], l)
		}
		if to := a.Walk(0, paths[n]); to != n {
			t.Errorf("by %v one comes to %d, and came to %d", paths[n], to, n)
		}
	}
	for _, x := range []*states.Auto{a, other} {
		if s := shown(t, p, x); s != want {
			t.Errorf("the states are\n%s\nand were\n%s", s, want)
		}
	}
}
