package check_test

import (
	"math"
	"slices"
	"strings"
	"testing"

	"tronage/api"
	"tronage/check"
	"tronage/names"
	"tronage/reader"
)

// plan is the plan of some rules, whose tokens are a, which is 1, and b, which is 2; their first Left is 3.
func plan(t *testing.T, rules string) api.Plan {
	t.Helper()
	g, d := reader.Read("%token a \"a\" %token b \"b\" %% " + rules)
	if d.Code != api.OK {
		t.Fatalf("%q is no grammar: %v", rules, d)
	}
	p, e, name := names.Of(g)
	if e != api.OK {
		t.Fatalf("%q has no plan: %d, %q", rules, e, name)
	}
	return p
}

// equal fails the test if a list is not the one that is asked for.
func equal(t *testing.T, what string, got, want []int) {
	t.Helper()
	if !slices.Equal(got, want) {
		t.Errorf("%s is %v, want %v", what, got, want)
	}
}

// checked fails the test if not just that is wrong with some rules.
func checked(t *testing.T, rules string, sym int, e api.Errno) {
	t.Helper()
	if s, got := check.Check(plan(t, rules)); s != sym || got != e {
		t.Errorf("Check of %q tells %d, %d, want %d, %d", rules, s, got, sym, e)
	}
}

// spelled fails the test if a symbol's sentence is not the one that is asked for.
func spelled(t *testing.T, rules string, sym int, want ...int) {
	t.Helper()
	equal(t, "the sentence of "+rules, check.Sentence(plan(t, rules), sym), want)
}

// P9.1, P9.2: the chapter's examples.
func TestExamples(t *testing.T) {
	barren := "S : a T ; T : T b ;"
	checked(t, barren, 3, api.ErrBarren)
	p := plan(t, barren)
	equal(t, "Productive", check.Productive(p), nil)
	equal(t, "Shortest", check.Shortest(p), []int{1, 1, 1, -1, -1, -1})
	checked(t, "S : a ; T : b ;", 4, api.ErrLoose)
	nothing := "S : a S b | ;"
	checked(t, nothing, 0, api.OK)
	equal(t, "Shortest", check.Shortest(plan(t, nothing)), []int{1, 1, 1, 0, 0})
	spelled(t, nothing, 3)
}

// P9.1: what makes a sentence are variables alone, and just those of which a rule has all that it needs.
func TestProductive(t *testing.T) {
	for _, x := range []struct {
		rules string
		want  []int
	}{
		{"S : a ;", []int{3}},
		{"S : ;", []int{3}},
		{"S : S ;", nil},
		{"S : S | S S | a S ;", nil},
		{"S : S | ;", []int{3}},
		{"S : a T | T ; T : b U ; U : ;", []int{3, 4, 5}},
		{"S : T U ; T : a ; U : U a ;", []int{4}},
		{"S : T a U ; T : U ; U : T ; V : a ;", []int{6}},
		{"S : T | a U ; T : S | a T ; U : b ;", []int{3, 4, 5}},
	} {
		equal(t, "Productive of "+x.rules, check.Productive(plan(t, x.rules)), x.want)
	}
}

// P9.1: what is come to are all symbols, the accepted one as well; rules need not make a sentence for that.
func TestReachable(t *testing.T) {
	for _, x := range []struct {
		rules string
		want  []int
	}{
		{"S : ;", []int{3, 4}},
		{"S : b ;", []int{2, 3, 4}},
		{"S : S ; T : a ;", []int{3, 5}},
		{"S : T ; T : S b ; U : S a ;", []int{2, 3, 4, 6}},
		{"S : a | T T ; T : U a U ; U : S | V ; V : V b ;", []int{1, 2, 3, 4, 5, 6, 7}},
	} {
		equal(t, "Reachable of "+x.rules, check.Reachable(plan(t, x.rules)), x.want)
	}
}

// started is the plan of some rules that begin with another one than the first Left.
func started(t *testing.T, start, rules string) api.Plan {
	t.Helper()
	p := plan(t, rules)
	p.Rules[0].Right[0] = names.Sym(p, start)
	return p
}

// P9.1: it is the accepted one that is begun with, and not the first Left; rules may stand in any order.
func TestStart(t *testing.T) {
	rules := "V : a ; U : V ; T : U ; S : T b ; R : S ;"
	equal(t, "Reachable", check.Reachable(started(t, "S", rules)), []int{1, 2, 3, 4, 5, 6, 8})
	equal(t, "Reachable", check.Reachable(started(t, "V", rules)), []int{1, 3, 8})
	equal(t, "Productive", check.Productive(started(t, "V", rules)), []int{3, 4, 5, 6, 7})
	if sym, e := check.Check(started(t, "T", rules)); sym != 6 || e != api.ErrLoose {
		t.Error(sym, e)
	}
	p := started(t, "S", rules)
	equal(t, "Shortest", check.Shortest(p), []int{1, 1, 1, 1, 1, 1, 2, 2, 2})
	equal(t, "Sentence", check.Sentence(p, 8), []int{1, 2})
}

// P9.1: the least barren one is told; a loose one just if none is barren, and the least one of these.
func TestCheck(t *testing.T) {
	checked(t, "S : a ;", 0, api.OK)
	checked(t, "S : ;", 0, api.OK)
	checked(t, "S : S ;", 3, api.ErrBarren)
	checked(t, "S : a | T U ; T : a T ; U : U ;", 4, api.ErrBarren)
	checked(t, "S : a | U T ; U : b ; T : a T ;", 5, api.ErrBarren)
	checked(t, "S : a | T ; T : b ; U : T ; V : U ;", 5, api.ErrLoose)
	checked(t, "S : a | U ; T : b ; U : b ; V : b ;", 4, api.ErrLoose)
	// T is loose and U is barren; then the same variable is both.
	checked(t, "S : a | U ; T : b ; U : a U ;", 5, api.ErrBarren)
	checked(t, "S : a ; T : b ; U : a U ;", 5, api.ErrBarren)
	checked(t, "S : a ; T : a T ;", 4, api.ErrBarren)
	// Loose ones may make one another come, but nothing else does.
	checked(t, "S : a ; T : U ; U : T | b ;", 4, api.ErrLoose)
}

// P9.2: the length of each symbol, the end and the accepted one, too.
func TestShortest(t *testing.T) {
	for _, x := range []struct {
		rules string
		want  []int
	}{
		{"S : ;", []int{1, 1, 1, 0, 0}},
		{"S : a b a | a a ;", []int{1, 1, 1, 2, 2}},
		{"S : T a T ; T : U U ; U : a b | b b b ;", []int{1, 1, 1, 9, 4, 2, 9}},
		{"S : S a | S S | b b b ;", []int{1, 1, 1, 3, 3}},
		{"S : T T | a ; T : ;", []int{1, 1, 1, 0, 0, 0}},
		{"S : a ; T : T ; U : a T ; V : b S ;", []int{1, 1, 1, 1, -1, -1, 2, 1}},
	} {
		equal(t, "Shortest of "+x.rules, check.Shortest(plan(t, x.rules)), x.want)
	}
}

// P9.2: a terminal is its own sentence, the end, too; what is no symbol has none.
func TestSymbols(t *testing.T) {
	p := plan(t, "S : a T b ; T : b a | a U ; U : U ;")
	for sym, want := range map[int][]int{
		math.MinInt: nil, -1: nil, 0: {0}, 1: {1}, 2: {2}, 3: {1, 2, 1, 2}, 4: {2, 1}, 5: nil, 6: {1, 2, 1, 2}, 7: nil, math.MaxInt: nil,
	} {
		equal(t, names.Name(p, sym), check.Sentence(p, sym), want)
	}
	spelled(t, "S : T a ; T : T ;", 3)
	spelled(t, "S : T a ; T : T ;", 5)
}

// P9.3: of rules of the same length it is the first one that gave it, by whatever round.
func TestFirstGiver(t *testing.T) {
	spelled(t, "S : a | b ;", 3, 1)
	spelled(t, "S : b b | a a | b a ;", 3, 2, 2)
	// T has its length in the first round, but behind S's own second rule.
	spelled(t, "S : T | a ; T : b ;", 3, 1)
	// T has its length ahead of S, in the same round.
	spelled(t, "T : b | S ; S : T | a ;", 4, 2)
	spelled(t, "S : a S | T T | b b ; T : a ;", 3, 2, 2)
}

// P9.3: a rule that gives less in a later round is the one that is gone by.
func TestLaterGiver(t *testing.T) {
	spelled(t, "S : a a a | T ; T : U ; U : b ;", 3, 2)
	spelled(t, "S : a a a | T ; T : U ; U : b ;", 6, 2)
	spelled(t, "S : a a a | a T | T b ; T : U ; U : a ;", 3, 1, 1)
	// S is given three times: 4 by its last rule, then 3 by its first one, at last 1 by its second one.
	spelled(t, "S : a T b | U | a a a a ; T : a ; U : V ; V : W ; W : b ;", 3, 2)
	// What a rule gave may fall by the same rule.
	spelled(t, "S : b T ; T : a a | U ; U : V ; V : ;", 3, 2)
	// The first rule gives 3 ahead of the second one, and 2 behind it, which gives 2 first.
	spelled(t, "S : b T | a b ; T : a a | U ; U : V ; V : b ;", 3, 1, 2)
}

// P9.2: a sentence may be as long as MaxInput, and no longer, of the accepted one as well; nor are its parts told that are.
func TestLongest(t *testing.T) {
	rest := " A : B B B B B ; B : C C C C C ; C : a a a a b ;"
	p := plan(t, "S : A A A A A A A A ;"+rest)
	for _, sym := range []int{3, 7} {
		want := slices.Repeat([]int{1, 1, 1, 1, 2}, api.MaxInput/5)
		equal(t, "a long sentence", check.Sentence(p, sym), want)
	}
	p = plan(t, "S : A A A A A A A D ; D : B B B B B a ;"+rest)
	equal(t, "Shortest", check.Shortest(p), []int{1, 1, 1, 1001, 126, 125, 25, 5, 1001})
	for sym, want := range map[int]int{3: 0, 4: 126, 5: 125, 8: 0} {
		if n := len(check.Sentence(p, sym)); n != want {
			t.Errorf("the sentence of %d has %d terminals, not %d", sym, n, want)
		}
	}
}

// eights is a chain of variables from A on, each of which is eight of the next one; the last one is what is handed in.
func eights(n int, last string) string {
	s := ""
	for i := range n {
		s += string(rune('A'+i)) + " :" + strings.Repeat(" "+string(rune('B'+i)), 8) + " ; "
	}
	return s + string(rune('A'+n)) + " : " + last + " ;"
}

// P9.2, P9.3: sums are held at MaxCount, as meter's Add holds them; from there they may fall.
func TestHeld(t *testing.T) {
	l := check.Shortest(plan(t, eights(15, "a")))
	equal(t, "the greatest lengths", l[3:7], []int{api.MaxCount, api.MaxCount, 1 << 39, 1 << 36})
	l = check.Shortest(plan(t, "S : T b ; T : A A ; "+eights(13, "a")))
	equal(t, "the greatest lengths", l[3:6], []int{api.MaxCount, api.MaxCount, 1 << 39})
	l = check.Shortest(plan(t, "S : T | A A A A | U ; T : A A ; "+eights(13, "a")+" U : V ; V : W ; W : X ; X : a b b ;"))
	equal(t, "the greatest lengths", l[3:6], []int{3, api.MaxCount, 1 << 39})
}

// P9.2: what makes nothing makes it at once, by however many rules.
func TestMuchNothing(t *testing.T) {
	p := plan(t, "S : A a A b A ; "+eights(17, ""))
	equal(t, "the sentence", check.Sentence(p, 3), []int{1, 2})
	equal(t, "the sentence", check.Sentence(p, 4), nil)
	if sym, e := check.Check(p); sym != 0 || e != api.OK {
		t.Error(sym, e)
	}
}

// R5, and what is answered: no call changes a plan, and whoever changes an answer changes nothing else.
func TestApart(t *testing.T) {
	rules := "S : a T b ; T : b | S ;"
	p := plan(t, rules)
	for range 2 {
		for _, l := range [][]int{check.Productive(p), check.Reachable(p), check.Shortest(p), check.Sentence(p, 1), check.Sentence(p, 3)} {
			clear(l)
			_ = append(l, 7, 7, 7, 7)
		}
	}
	equal(t, "Productive", check.Productive(p), []int{3, 4})
	equal(t, "Reachable", check.Reachable(p), []int{1, 2, 3, 4, 5})
	equal(t, "Shortest", check.Shortest(p), []int{1, 1, 1, 3, 1, 3})
	equal(t, "Sentence", check.Sentence(p, 3), []int{1, 2, 2})
	for i, r := range plan(t, rules).Rules {
		if r.Left != p.Rules[i].Left || !slices.Equal(r.Right, p.Rules[i].Right) {
			t.Errorf("rule %d is %v now", i, p.Rules[i])
		}
	}
}
