package look_test

import (
	"math"
	"slices"
	"strconv"
	"strings"
	"testing"

	"tronage/api"
	"tronage/check"
	"tronage/look"
	"tronage/names"
	"tronage/reader"
	"tronage/states"
)

// read is the plan of a grammar's text.
func read(t *testing.T, text string) api.Plan {
	t.Helper()
	g, d := reader.Read(text)
	if d.Code != api.OK {
		t.Fatalf("%q is no grammar: %v", text, d)
	}
	p, e, name := names.Of(g)
	if e != api.OK {
		t.Fatalf("%q has no plan: %d, %q", text, e, name)
	}
	return p
}

// plan is the plan of some rules, whose tokens are a, b and c, from 1 on; their first Left is 4.
func plan(t *testing.T, rules string) api.Plan {
	t.Helper()
	return read(t, "%token a \"a\" %token b \"b\" %token c \"c\" "+rules)
}

// built is a plan's automaton, whatever it costs.
func built(t *testing.T, p api.Plan) *states.Auto {
	t.Helper()
	a, e := states.Build(p, api.MaxCount, api.MaxCount)
	if e != api.OK || a == nil {
		t.Fatalf("Build tells %d", e)
	}
	return a
}

// symbols are symbols' names; the end's is a dot.
func symbols(p api.Plan, l []int) string {
	s := ""
	for _, sym := range l {
		s += strings.Replace(names.Name(p, sym), "$end", ".", 1)
	}
	return s
}

// shown is all that is told of an automaton, as a text: of each state in which rules are done a line, that tells the path to it, and of each rule its number, its looks, and of each way its symbol, and the path to where it goes.
func shown(p api.Plan, a *states.Auto, l *look.Looks) string {
	var lines []string
	for n := range a.Len() {
		if len(l.Done(n)) == 0 {
			continue
		}
		parts := []string{"[" + symbols(p, a.Path(n)) + "]"}
		for _, rule := range l.Done(n) {
			parts = append(parts, strconv.Itoa(rule)+":"+symbols(p, l.At(n, rule)))
			for _, way := range l.Ways(n, rule) {
				parts = append(parts, names.Name(p, way.Sym)+"["+symbols(p, a.Path(way.To))+"]")
			}
		}
		lines = append(lines, strings.Join(parts, " "))
	}
	return strings.Join(lines, "\n")
}

// tells fails the test if of a plan anything else is told than that which is asked for.
func tells(t *testing.T, p api.Plan, want ...string) {
	t.Helper()
	if sym, e := check.Check(p); e != api.OK {
		t.Fatalf("of %v Check tells %d, %d", p, sym, e)
	}
	a := built(t, p)
	if s := shown(p, a, look.Of(p, a)); s != strings.Join(want, "\n") {
		t.Errorf("of %v is told\n%s\nwant\n%s", p.Rules, s, strings.Join(want, "\n"))
	}
}

// P13.1, P13.2: the chapter's example. R : L is done beside S : L . e R with the end alone, though an e comes behind R elsewhere.
func TestExample(t *testing.T) {
	p := read(t, "%token e \"e\" %token s \"s\" %token i \"i\" %% S : L e R | R ; L : s R | i ; R : L ;")
	tells(t, p,
		"[i] 4:.e L[L] L[sL] L[sL]",
		"[S] 0:.",
		"[L] 5:. R[R]",
		"[R] 2:. S[S]",
		"[sL] 5:.e R[sR] R[LeR]",
		"[sR] 3:.e L[L] L[sL] L[sL]",
		"[LeR] 1:. S[S]")
	a := built(t, p)
	l := look.Of(p, a)
	n := a.Walk(0, []int{5})
	if items := a.Items(n); !slices.Equal(items, []api.Item{{Rule: 1, Dot: 1}, {Rule: 5, Dot: 1}}) || !slices.Equal(l.At(n, 5), []int{0}) || !slices.Equal(l.Done(n), []int{5}) {
		t.Errorf("of %d, which has %v, Done tells %v, At %v", n, items, l.Done(n), l.At(n, 5))
	}
}

// P13.1, P13.2: a rule of nothing is done where it is begun, and one goes on from there.
func TestRulesOfNothing(t *testing.T) {
	tells(t, plan(t, "%% S : ;"), "[] 1:. S[S]", "[S] 0:.")
	tells(t, plan(t, "%% S : T T ; T : ;"), "[] 2:. T[T]", "[S] 0:.", "[T] 2:. T[TT]", "[TT] 1:. S[S]")
	tells(t, plan(t, "%% S : | a S ;"), "[] 1:. S[S]", "[a] 1:. S[aS]", "[S] 0:.", "[aS] 2:. S[S] S[aS]")
	tells(t, plan(t, "%% S : S a | ;"), "[] 2:.a S[S]", "[S] 0:.", "[Sa] 1:.a S[S]")
	// Two of nothing are done in one state.
	tells(t, plan(t, "%% S : T a | U b ; T : ; U : ;"), "[] 3:a T[T] 4:b U[U]", "[S] 0:.", "[Ta] 1:. S[S]", "[Ub] 2:. S[S]")
}

// P13.1: what comes behind a rule's Left may be told through several variables that may be nothing: by what they begin with, and by what is behind them all.
func TestThroughVariablesThatMayBeNothing(t *testing.T) {
	tells(t, plan(t, "%% S : T U V c ; T : ; U : b | ; V : a | ;"),
		"[] 2:abc T[T]",
		"[S] 0:.",
		"[T] 4:ac U[TU]",
		"[Tb] 3:ac U[TU]",
		"[TU] 6:c V[TUV]",
		"[TUa] 5:c V[TUV]",
		"[TUVc] 1:. S[S]")
	// Behind the last one comes what is behind all of the rule, which ends another one, and that one more.
	tells(t, plan(t, "%% S : X c | X ; X : a Y ; Y : T U V ; T : b ; U : T | ; V : | U ;"),
		"[S] 0:.",
		"[X] 2:. S[S]",
		"[ab] 5:.bc T[aT] T[aTT] T[aTT]",
		"[aY] 3:.c X[X]",
		"[aT] 7:.bc U[aTU]",
		"[Xc] 1:. S[S]",
		"[aTT] 6:.bc U[aTU] U[aTUU]",
		"[aTU] 7:.c U[aTUU] 8:.c V[aTUV]",
		"[aTUU] 9:.c V[aTUV]",
		"[aTUV] 4:.c Y[aY]")
	// A variable that need be something hides what is behind it.
	tells(t, plan(t, "%% S : T U c ; T : a ; U : b | b U ;"),
		"[a] 2:b T[T]",
		"[S] 0:.",
		"[Tb] 3:c U[TU] U[TbU]",
		"[TbU] 4:c U[TU] U[TbU]",
		"[TUc] 1:. S[S]")
}

// P13.1: looks of several canonical states are merged where their items are the same, also where that makes two rules have the same look.
func TestMerged(t *testing.T) {
	tells(t, plan(t, "%% S : a T a | b T b | a U b | b U a ; T : c ; U : c ;"),
		"[S] 0:.",
		"[ac] 5:ab T[aT] T[bT] 6:ab U[aU] U[bU]",
		"[aTa] 1:. S[S]",
		"[aUb] 3:. S[S]",
		"[bTb] 2:. S[S]",
		"[bUa] 4:. S[S]")
	// Without the second ones each look stands by itself, though both rules' Lefts have both behind them.
	tells(t, plan(t, "%% S : a T a | b T b | a U b | b a U a ; T : c ; U : c ;"),
		"[S] 0:.",
		"[ac] 5:a T[aT] 6:b U[aU]",
		"[bc] 5:b T[bT]",
		"[aTa] 1:. S[S]",
		"[aUb] 3:. S[S]",
		"[bac] 6:a U[baU]",
		"[bTb] 2:. S[S]",
		"[baUa] 4:. S[S]")
}

// P13.1: a rule that is done in several states has other looks in each of them.
func TestByStates(t *testing.T) {
	tells(t, plan(t, "%% S : T a U | U ; T : b U | c ; U : T ;"),
		"[c] 4:.a T[T] T[bT] T[bT]",
		"[S] 0:.",
		"[T] 5:. U[U]",
		"[U] 2:. S[S]",
		"[bT] 5:.a U[bU] U[TaU]",
		"[bU] 3:.a T[T] T[bT] T[bT]",
		"[TaU] 1:. S[S]")
	tells(t, plan(t, "%% S : S T | ; T : a S b | c ;"),
		"[] 2:.ac S[S]",
		"[S] 0:.",
		"[Sa] 2:abc S[SaS]",
		"[Sc] 4:.abc T[ST] T[ST]",
		"[ST] 1:.abc S[S] S[SaS]",
		"[SaSb] 3:.abc T[ST] T[ST]")
}

// P13.1, P13.3: rules that end by each other have the same looks, which come to them all, and none comes from elsewhere.
func TestRings(t *testing.T) {
	tells(t, plan(t, "%% S : S | a ;"), "[a] 2:. S[S]", "[S] 0:. 1:. S[S]")
	tells(t, plan(t, "%% S : T | U c ; T : U | a ; U : T | b ;"),
		"[a] 4:.c T[T]",
		"[b] 6:.c U[U]",
		"[S] 0:.",
		"[T] 1:. S[S] 5:.c U[U]",
		"[U] 3:.c T[T]",
		"[Uc] 2:. S[S]")
	tells(t, plan(t, "%% S : a T | T b ; T : a S | c ;"),
		"[c] 4:.b T[T] T[aT]",
		"[S] 0:.",
		"[aS] 3:.b T[T] T[aT]",
		"[aT] 1:.b S[S] S[aS]",
		"[Tb] 2:.b S[S] S[aS]")
}

// P13.1: a variable may be begun in one state by several rules, and at several places of one.
func TestSeveralPlaces(t *testing.T) {
	tells(t, plan(t, "%% S : T T a | T b ; T : c ;"),
		"[c] 3:abc T[T] T[TT]",
		"[S] 0:.",
		"[Tb] 2:. S[S]",
		"[TTa] 1:. S[S]")
	tells(t, plan(t, "%% S : S S | a ;"), "[a] 2:.a S[S] S[SS] S[SS]", "[S] 0:.", "[SS] 1:.a S[S] S[SS] S[SS]")
}

// P13.2: where edges of several states go is told by rising states from which they come; a state that several go to is told as often.
func TestWays(t *testing.T) {
	p := plan(t, "%% S : A b | b A c | c S ; A : a ;") // S is 4, A is 5
	tells(t, p,
		"[a] 4:bc A[A] A[bA] A[A]",
		"[S] 0:.",
		"[cS] 3:. S[S] S[cS]",
		"[Ab] 1:. S[S] S[cS]",
		"[bAc] 2:. S[S] S[cS]")
	a := built(t, p)
	l := look.Of(p, a)
	if a.Go(0, 5) >= a.Go(2, 5) || a.Go(0, 5) != a.Go(3, 5) {
		t.Fatalf("with 5 one comes to %d from 0, to %d from 2, to %d from 3", a.Go(0, 5), a.Go(2, 5), a.Go(3, 5))
	}
	want := []api.Edge{{Sym: 5, To: a.Go(0, 5)}, {Sym: 5, To: a.Go(2, 5)}, {Sym: 5, To: a.Go(0, 5)}}
	if ways := l.Ways(1, 4); !slices.Equal(ways, want) {
		t.Errorf("Ways tells %v, want %v", ways, want)
	}
}

// P13.1, P13.2, P13.3: the rule 0 is done in one state, with the end alone, whatever comes behind the variable with which is begun; and no edge goes on from it.
func TestRuleZero(t *testing.T) {
	for _, rules := range []string{
		"%% S : ;", "%% S : a ;", "%% S : S ;", "%% S : S | a ;", "%% S : S a | b S | ;", "%% S : S S S | c ;",
		"%% S : a S b | T ; T : S T | c ;", "%start T %% S : T a ; T : S b | S T | c ;",
	} {
		p := plan(t, rules)
		a := built(t, p)
		l := look.Of(p, a)
		start := p.Rules[0].Right[0]
		for n := range a.Len() {
			looks, is := l.At(n, 0), n == a.Go(0, start)
			if is != slices.Contains(l.Done(n), 0) || is && !slices.Equal(looks, []int{0}) || !is && len(looks) > 0 || len(l.Ways(n, 0)) > 0 {
				t.Errorf("of %q in %d Done tells %v, At %v, Ways %v", rules, n, l.Done(n), looks, l.Ways(n, 0))
			}
		}
	}
	tells(t, plan(t, "%% S : S a | b S | ;"),
		"[] 3:.a S[S]",
		"[b] 3:.a S[bS]",
		"[S] 0:.",
		"[bS] 2:.a S[S] S[bS]",
		"[Sa] 1:.a S[S] S[bS]")
}

// far are numbers that none of a short grammar's states, or rules, has.
var far = []int{math.MinInt, -api.MaxCount, -64, -2, -1, 99, 1000, api.MaxCount, math.MaxInt}

// untold fails the test if of a state and a rule there is something to tell.
func untold(t *testing.T, l *look.Looks, state, rule int) {
	t.Helper()
	if len(l.At(state, rule)) > 0 || len(l.Ways(state, rule)) > 0 {
		t.Errorf("in %d of %d At tells %v, Ways %v", state, rule, l.At(state, rule), l.Ways(state, rule))
	}
}

// P13.1, P13.2: of no state, and of no rule, there is nothing to tell.
func TestNoStateNoRule(t *testing.T) {
	for _, rules := range []string{"%% S : a S | b ;", "%% S : ;", "%% S : S T | ; T : a S b | c ;"} {
		p := plan(t, rules)
		a := built(t, p)
		l := look.Of(p, a)
		for _, n := range append([]int{a.Len(), a.Len() + 1}, far...) {
			if len(l.Done(n)) > 0 {
				t.Errorf("of %q in no state %d Done tells %v", rules, n, l.Done(n))
			}
			for _, rule := range append([]int{0, 1, 2, len(p.Rules)}, far...) {
				untold(t, l, n, rule)
			}
		}
		for n := range a.Len() {
			for _, rule := range append([]int{len(p.Rules), len(p.Rules) + 1}, far...) {
				untold(t, l, n, rule)
			}
		}
	}
}

// P13.1, P13.2: of a rule that is not done in a state there is nothing to tell, be it in that state, or done beside it, or elsewhere.
func TestNotDone(t *testing.T) {
	p := plan(t, "%% S : a S b | a S | T ; T : c | ;") // S : a S . stands beside S : a S . b
	a := built(t, p)
	l := look.Of(p, a)
	n := a.Walk(0, []int{1, 4})
	if len(a.Items(n)) != 2 || !slices.Equal(l.Done(n), []int{2}) || !slices.Equal(l.At(n, 2), []int{0, 2}) || len(l.Ways(n, 2)) != 2 {
		t.Errorf("in %d Done tells %v, At %v, Ways %v", n, l.Done(n), l.At(n, 2), l.Ways(n, 2))
	}
	for n := range a.Len() {
		for rule, r := range p.Rules {
			if !slices.Contains(a.Items(n), api.Item{Rule: rule, Dot: len(r.Right)}) {
				untold(t, l, n, rule)
				if slices.Contains(l.Done(n), rule) {
					t.Errorf("%d is not done in %d", rule, n)
				}
			}
		}
	}
}

// P13.1: numbers of rules of more than one digit rise, and rules that are the same are two.
func TestManyRules(t *testing.T) {
	p := plan(t, "%% S : a T"+strings.Repeat(" | a T", 11)+" ; T : b ;")
	want := []int{1, 2, 3, 4, 5, 6, 7, 8, 9, 10, 11, 12}
	a := built(t, p)
	l := look.Of(p, a)
	n := a.Walk(0, []int{1, 5})
	if !slices.Equal(l.Done(n), want) {
		t.Errorf("Done tells %v", l.Done(n))
	}
	for _, rule := range want {
		if !slices.Equal(l.At(n, rule), []int{0}) || !slices.Equal(l.Ways(n, rule), []api.Edge{{Sym: 4, To: a.Go(0, 4)}}) {
			t.Errorf("of %d At tells %v, Ways %v", rule, l.At(n, rule), l.Ways(n, rule))
		}
	}
}

// P13.1: a plan of which Check tells nothing may be ambiguous; levels of precedence hide no look.
func TestAmbiguous(t *testing.T) {
	tells(t, plan(t, "%token d \"d\" %token e \"e\" %left a %% E : E a E | E e E | E c E | E d | b E | ;"),
		"[] 6:.acde E[E]",
		"[b] 6:.acde E[bE]",
		"[E] 0:.",
		"[bE] 5:.acde E[E] E[bE] E[EaE] E[EcE] E[EeE]",
		"[Ea] 6:.acde E[EaE]",
		"[Ec] 6:.acde E[EcE]",
		"[Ed] 4:.acde E[E] E[bE] E[EaE] E[EcE] E[EeE]",
		"[Ee] 6:.acde E[EeE]",
		"[EaE] 1:.acde E[E] E[bE] E[EaE] E[EcE] E[EeE]",
		"[EcE] 3:.acde E[E] E[bE] E[EaE] E[EcE] E[EeE]",
		"[EeE] 2:.acde E[E] E[bE] E[EaE] E[EcE] E[EeE]")
}

// scribble changes a list, and what lies behind it.
func scribble[T any](l []T) {
	clear(l)
	var x T
	_ = append(l, x, x, x)
}

// R5, and the language's rule 7: Of changes no plan, no automaton, and keeps no list of theirs; whoever changes an answer changes nothing else.
func TestApart(t *testing.T) {
	rules := "%% S : S S T | S T | a S | ; T : b T | T c | c ;"
	p, was := plan(t, rules), plan(t, rules)
	a := built(t, p)
	l := look.Of(p, a)
	want := shown(was, a, l)
	for i, r := range was.Rules {
		if r.Left != p.Rules[i].Left || !slices.Equal(r.Right, p.Rules[i].Right) {
			t.Errorf("rule %d is %v now", i, p.Rules[i])
		}
		scribble(p.Rules[i].Right)
	}
	if !slices.Equal(p.Terms, was.Terms) || !slices.Equal(p.Vars, was.Vars) {
		t.Errorf("symbols are %v, %v now", p.Terms, p.Vars)
	}
	scribble(p.Rules)
	scribble(p.Terms)
	scribble(p.Vars)
	for n := range a.Len() {
		scribble(a.Items(n))
		for _, rule := range l.Done(n) {
			scribble(l.At(n, rule))
			scribble(l.Ways(n, rule))
		}
		scribble(l.Done(n))
	}
	for i, x := range []*look.Looks{l, look.Of(was, a), look.Of(was, built(t, was))} {
		if s := shown(was, a, x); s != want {
			t.Errorf("looks %d are\n%s\nand were\n%s", i, s, want)
		}
	}
}

// askAll asks for all that there may be to tell, and for what there is not.
func askAll(t *testing.T, l *look.Looks, n, rules int) {
	t.Helper()
	for state := -1; state <= n; state++ {
		l.Done(state)
		for rule := -1; rule <= rules; rule++ {
			l.At(state, rule)
			l.Ways(state, rule)
		}
	}
}

// R1: of a plan of which chapter 9's Check tells something nothing is promised, but that the calls end.
func TestChecked(t *testing.T) {
	for _, x := range []struct {
		rules string
		want  api.Errno
	}{
		{"%% S : a T ; T : T b ;", api.ErrBarren},
		{"%% S : S a ;", api.ErrBarren},
		{"%% S : S ;", api.ErrBarren},
		{"%% S : T U c | a ; T : T ; U : ;", api.ErrBarren},
		{"%% S : a ; T : b ;", api.ErrLoose},
		{"%% S : T a ; T : b | ; U : S T ;", api.ErrLoose},
	} {
		p := plan(t, x.rules)
		if _, e := check.Check(p); e != x.want {
			t.Errorf("of %q Check tells %d", x.rules, e)
		}
		a := built(t, p)
		askAll(t, look.Of(p, a), a.Len(), len(p.Rules))
	}
}

// R1: of another plan's automaton nothing is promised, but that the calls end; so of one that has no states, or of none.
func TestOtherAutomaton(t *testing.T) {
	var plans []api.Plan
	for _, rules := range []string{
		"%% S : ;", "%% S : a S | b ;", "%% S : S T | ; T : a S b | c ;", "%% S : T U V c ; T : ; U : b | ; V : a | ;",
		"%% S : a b c a b c a b | T S ; T : S S S S S S S S | ;", "%% S : a ; T : b ; U : c T ;",
	} {
		plans = append(plans, plan(t, rules))
	}
	plans = append(plans, read(t, "%% S : S S | ;"), read(t, "%token a \"a\" %% S : T ; T : U a ; U : V ; V : T | ;"), api.Plan{})
	for _, p := range plans {
		for _, other := range plans {
			a := built(t, other)
			askAll(t, look.Of(p, a), a.Len(), 12)
		}
		askAll(t, look.Of(p, new(states.Auto)), 2, 12)
		askAll(t, look.Of(p, nil), 2, 12)
	}
}

// full is the plan of as many tokens and rules as may be: each variable has a rule of as many symbols as may be, of which the last one is a token of its own, and one of nothing.
func full(t *testing.T) api.Plan {
	vars, text := api.MaxRules/2, ""
	for i := range api.MaxTokens {
		name := "t" + strconv.Itoa(i)
		text += "%token " + name + " \"" + name + "\" "
	}
	text += "%% "
	for i := range vars {
		text += "V" + strconv.Itoa(i) + " :" + strings.Repeat(" V"+strconv.Itoa((i+1)%vars), api.MaxRight-1) + " t" + strconv.Itoa(i) + " | ; "
	}
	return read(t, text)
}

// P13.1, P13.2: as many rules and symbols as may be. Where one variable is begun all are, with one like it behind each, so that any token may come next; the end comes behind the first one alone, where that is begun first.
func TestFullPlan(t *testing.T) {
	p := full(t)
	a := built(t, p)
	l := look.Of(p, a)
	begun := 0
	for n := range a.Len() {
		if a.Go(n, p.Rules[1].Left) >= 0 {
			begun++
		}
	}
	for n := range a.Len() {
		for _, rule := range l.Done(n) {
			r, want, ways := p.Rules[rule], []int{0}, begun
			if rule > 0 {
				want = []int{}
				for term := 1; term < len(p.Terms); term++ {
					want = append(want, term)
				}
			}
			if len(r.Right) == 0 {
				ways = 1
			}
			if r.Left == p.Rules[0].Right[0] && (n == 0 || len(r.Right) > 0) {
				want = slices.Insert(want, 0, 0)
			}
			if got := l.At(n, rule); !slices.Equal(got, want) || rule > 0 && len(l.Ways(n, rule)) != ways {
				t.Fatalf("in %d of %d At tells %v, want %v; there are %d ways, want %d", n, rule, got, want, len(l.Ways(n, rule)), ways)
			}
		}
	}
	if begun < a.Len()/2 {
		t.Errorf("of %d states %d begin a variable", a.Len(), begun)
	}
}

// P13.1: an automaton may have many states: its states have to know which of so many symbols behind one another were an a.
func TestManyStates(t *testing.T) {
	const n = 10
	text := "%% S : a S | b S | a A0 ; "
	for i := range n {
		to := "A" + strconv.Itoa(i+1)
		text += "A" + strconv.Itoa(i) + " : a " + to + " | b " + to + " ; "
	}
	p := plan(t, text+"A"+strconv.Itoa(n)+" : c ;")
	a := built(t, p)
	l := look.Of(p, a)
	if a.Len() < 1<<n {
		t.Fatalf("there are %d states", a.Len())
	}
	count := 0
	for state := range a.Len() {
		for _, rule := range l.Done(state) {
			if count++; !slices.Equal(l.At(state, rule), []int{0}) || (rule > 0) != (len(l.Ways(state, rule)) > 0) {
				t.Fatalf("in %d of %d At tells %v, Ways %v", state, rule, l.At(state, rule), l.Ways(state, rule))
			}
		}
	}
	if count < len(p.Rules) {
		t.Errorf("%d rules are done", count)
	}
}
