package engine_test

import (
	"fmt"
	"math"
	"reflect"
	"runtime/debug"
	"slices"
	"strings"
	"testing"

	"tronage/api"
	"tronage/engine"
	"tronage/look"
	"tronage/meter"
	"tronage/names"
	"tronage/reader"
	"tronage/resolve"
	"tronage/states"
)

// The symbols of all plans here: three terminals behind the end, and the variables that the rules have, S first.
const (
	a = 1
	b = 2
	c = 3
	S = 4
	T = 5
	U = 6
)

// much is more than any small machine takes, of whatever.
const much = 1 << 20

// grammar is a plan, its automaton, and its grid.
type grammar struct {
	t    *testing.T
	p    api.Plan
	auto *states.Auto
	g    *resolve.Grid
}

// of is a plan with what is made of it.
func of(t *testing.T, p api.Plan) grammar {
	t.Helper()
	auto, e := states.Build(p, api.MaxCount, api.MaxCount)
	if e != api.OK {
		t.Fatal(p, e)
	}
	return grammar{t, p, auto, resolve.Of(p, auto, look.Of(p, auto))}
}

// read is the grammar of some rules, with levels ahead of them, if there are any.
func read(t *testing.T, text string) grammar {
	t.Helper()
	if !strings.Contains(text, "%%") {
		text = "%% " + text
	}
	g, d := reader.Read(`%token a "a" %token b "b" %token c "c" ` + text)
	if d.Code != api.OK {
		t.Fatal(text, d)
	}
	p, e, name := names.Of(g)
	if e != api.OK {
		t.Fatal(text, e, name)
	}
	return of(t, p)
}

// nested is the grammar of most tests: its rules are 1 and 2.
func nested(t *testing.T) grammar {
	t.Helper()
	return read(t, "S : a S b | c ;")
}

// line are tokens of some terminals, whose places tell them from one another.
func line(terms ...int) []api.Tok {
	var l []api.Tok
	for i, x := range terms {
		l = append(l, api.Tok{Term: x, From: 3*i + 1, To: 3*i + 3})
	}
	return l
}

// word are tokens of some letters.
func word(s string) []api.Tok {
	var terms []int
	for _, x := range []byte(s) {
		terms = append(terms, int(x-'a')+1)
	}
	return line(terms...)
}

// stack are the states that one has come to by some symbols, from the state 0 on.
func (x grammar) stack(symbols ...int) []int {
	l := []int{0}
	for _, sym := range symbols {
		l = append(l, x.auto.Go(l[len(l)-1], sym))
	}
	return l
}

// trial is a machine that is tried, and its meter.
type trial struct {
	*engine.Machine
	grammar
	m *meter.Meter
}

// start is a machine that did nothing yet.
func (x grammar) start(toks []api.Tok, depth, cells int) trial {
	m := meter.New(cells)
	return trial{engine.New(x.p, x.g, toks, depth, m), x, m}
}

// run is a machine that has done steps until it ended.
func (x grammar) run(toks []api.Tok, depth, cells int) trial {
	m := meter.New(cells)
	return trial{engine.Run(x.p, x.g, toks, depth, m, math.MaxInt), x, m}
}

// comes fails the test if something else than this came.
func (y trial) comes(want api.Outcome) {
	y.t.Helper()
	if o := y.Outcome(); o.Kind != want.Kind || o.Root != want.Root || o.At != want.At || !slices.Equal(o.Expected, want.Expected) {
		y.t.Errorf("what came is %v, want %v", o, want)
	}
}

// goes fails the test if the machine has ended.
func (y trial) goes() { y.t.Helper(); y.comes(api.Outcome{}) }

// rejects fails the test if it did not reject a token, with these expected.
func (y trial) rejects(at int, expected ...int) {
	y.t.Helper()
	y.comes(api.Outcome{Kind: api.RunReject, At: at, Expected: expected})
}

// exceeds fails the test if nothing was too much.
func (y trial) exceeds() { y.t.Helper(); y.comes(api.Outcome{Kind: api.RunQuota}) }

// makes fails the test if it is not this tree, whose root is the last node.
func (y trial) makes(want string) {
	y.t.Helper()
	y.comes(api.Outcome{Kind: api.RunTree, Root: y.Tree().Len() - 1})
	if s := y.Tree().Show(y.p, y.Outcome().Root); s != want {
		y.t.Errorf("the tree is %s, want %s", s, want)
	}
}

// has fails the test if these are not how many steps were done, the depth, the greatest one, and how many nodes there are, of how many cells.
func (y trial) has(steps, depth, most, nodes, cells int) {
	y.t.Helper()
	got := []int{y.Steps(), y.Depth(), y.Most(), y.Tree().Len(), y.Tree().Cells(), y.m.Used()}
	if want := []int{steps, depth, most, nodes, cells, cells}; !slices.Equal(got, want) {
		y.t.Errorf("steps, depth, most, nodes, cells, those of the meter are %v, want %v", got, want)
	}
}

// all is all that a machine tells, as a text.
func (y trial) all() string {
	t := y.Tree()
	s := fmt.Sprintln(y.Outcome(), y.Steps(), y.Depth(), y.Most(), t.Len(), t.Cells(), y.m.Used(), y.m.Most())
	for i := range t.Len() {
		s += fmt.Sprintln(t.IsLeaf(i), t.Rule(i), t.Sym(i), t.Tok(i), t.Kids(i))
	}
	return s
}

// stays fails the test if a machine that has ended does anything more.
func (y trial) stays() {
	y.t.Helper()
	was := y.all()
	for range 3 {
		if !y.Step() {
			y.t.Error("a machine has not ended any more")
		}
	}
	if is := y.all(); is != was {
		y.t.Errorf("a machine that has ended goes on from\n%sto\n%s", was, is)
	}
}

// expects fails the test if not just these go on from a stack.
func (x grammar) expects(stack []int, most int, want ...int) {
	x.t.Helper()
	if l := engine.Expected(x.g, x.p, stack, most); !slices.Equal(l, want) {
		x.t.Errorf("from %v with %d %v go on, want %v", stack, most, l, want)
	}
}

// P19.1, P19.2: the chapter's examples.
func TestExamples(t *testing.T) {
	x := nested(t)
	y := x.run(word("acb"), much, much)
	y.makes("(S a (S c) b)")
	y.has(6, 1, 3, 5, 9)
	x.run(word("acc"), much, much).rejects(2, b)
	x.run(word("aacbb"), 3, much).exceeds()
}

// P19.1: a machine that did nothing yet.
func TestNew(t *testing.T) {
	x := nested(t)
	for _, toks := range [][]api.Tok{nil, {}, word("acb"), word("cc"), line(0), line(-1, 9), {{Term: a, From: 7, To: 2}}} {
		for _, depth := range []int{math.MinInt, -1, 0, 1, 9, api.MaxCount + 1, math.MaxInt} {
			for _, cells := range []int{0, 1, much} {
				y := x.start(toks, depth, cells)
				y.goes()
				y.has(0, 0, 0, 0, 0)
			}
		}
	}
}

// P19.1: step by step, what is told on the way.
func TestOnTheWay(t *testing.T) {
	y := nested(t).start(word("aacbb"), 4, 15)
	for i, x := range [][]int{
		{1, 1, 1, 1}, {2, 2, 2, 2}, {3, 3, 3, 3}, {3, 3, 4, 5}, {4, 4, 5, 6}, {2, 4, 6, 10}, {3, 4, 7, 11}, {1, 4, 8, 15},
	} {
		if y.Step() {
			t.Fatal("it ends at", i)
		}
		y.goes()
		y.has(i+1, x[0], x[1], x[2], x[3])
	}
	if !y.Step() {
		t.Fatal("it does not end")
	}
	y.makes("(S a (S a (S c) b) b)")
	y.has(9, 1, 4, 8, 15)
	if l := y.Tree().Yield(7); !slices.Equal(l, word("aacbb")) {
		t.Error(l)
	}
}

// P19.1: nodes are the tree's, in the order in which they were made, each with its rule, its Left, and what it took off the stack, the lowest first.
func TestNodes(t *testing.T) {
	y := read(t, "S : T a T b T ; T : c | ;").run(word("abc"), much, much)
	y.makes("(S (T) a (T) b (T c))")
	for i, want := range []string{
		"T 3 []", "a -1 []", "T 3 []", "b -1 []", "c -1 []", "T 2 [4]", "S 1 [0 1 2 3 5]",
	} {
		w := y.Tree()
		if s := fmt.Sprint(names.Name(y.p, w.Sym(i)), " ", w.Rule(i), " ", w.Kids(i)); s != want {
			t.Errorf("the node %d is %s, want %s", i, s, want)
		}
	}
	if l := y.Tree().Yield(6); !slices.Equal(l, word("abc")) {
		t.Error(l)
	}
}

// P19.1: a machine that has ended does nothing more, however it ended.
func TestBehindTheEnd(t *testing.T) {
	x := nested(t)
	y := x.run(word("acb"), much, much)
	y.stays()
	y.makes("(S a (S c) b)")
	y = x.run(word("acc"), much, much)
	y.stays()
	y.rejects(2, b)
	y.has(3, 2, 2, 2, 2)
	for _, bounds := range [][]int{{2, much}, {much, 4}, {much, 3}, {much, 0}, {0, much}} {
		y = x.run(word("acb"), bounds[0], bounds[1])
		y.stays()
		y.exceeds()
	}
}

// Words: the tokens are those ahead of the first end, or all.
func TestTokens(t *testing.T) {
	x := read(t, "S : a S | ;")
	for _, toks := range [][]api.Tok{nil, {}, line(0), line(0, 0), line(0, a), line(0, 9, a)} {
		y := x.run(toks, much, much)
		y.makes("(S)")
		y.has(2, 1, 1, 1, 1)
	}
	for _, toks := range [][]api.Tok{line(a, a), line(a, a, 0), line(a, a, 0, 0), line(a, a, 0, b, 9), line(a, a, 0, a, a)} {
		y := x.run(toks, much, much)
		y.makes("(S a (S a (S)))")
		y.has(6, 1, 3, 5, 9)
		if l := y.Tree().Yield(y.Outcome().Root); !slices.Equal(l, line(a, a)) {
			t.Error(l)
		}
	}
	x = nested(t)
	x.run(line(a, c), much, much).rejects(2, b)
	x.run(line(a, c, 0), much, much).rejects(2, b)
	x.run(line(a, c, 0, b), much, much).rejects(2, b)
	x.run(line(0, a, c, b), much, much).rejects(0, a, c)
	x.run(nil, much, much).rejects(0, a, c)
}

// Words: tokens of numbers that no terminal has are no end, and are rejected.
func TestTokensOfNoTerminal(t *testing.T) {
	x := read(t, "S : a S | ;")
	for _, term := range []int{math.MinInt, -1 << 40, -1 << 32, -2, -1, S, names.Accept(x.p), names.Accept(x.p) + 1, 99, 1 << 32, 1 << 40, math.MaxInt} {
		y := x.run(line(term), much, much)
		y.rejects(0, 0, a)
		y.has(1, 0, 0, 0, 0)
		y = x.run(line(a, term, a), much, much)
		y.rejects(1, 0, a)
		y.has(2, 1, 1, 1, 1)
		x.run(line(a, 0, term), much, much).makes("(S a (S))")
	}
}

// Words: tokens without an end have one at the last one's To. Grammars' rules do not have it; as a plan's that no grammar has it is put on the stack.
func TestPlaceOfTheEnd(t *testing.T) {
	p := api.Plan{
		Terms: []string{"$end", "a"}, Vars: []string{"S"}, Levels: []int{0, 0}, Assocs: []int{0}, Acts: []string{"", "", ""},
		Rules: []api.Prod{{Left: 3, Right: []int{2}}, {Left: 2, Right: []int{1, 0}}, {Left: 2, Right: []int{0}}},
	}
	x := of(t, p)
	for _, one := range []struct{ toks, yield []api.Tok }{
		{nil, []api.Tok{{}}},
		{line(a), []api.Tok{{Term: a, From: 1, To: 3}, {From: 3, To: 3}}},
		{line(a, 0), []api.Tok{{Term: a, From: 1, To: 3}, {From: 4, To: 6}}},
		{line(0, a), []api.Tok{{From: 1, To: 3}}},
		{[]api.Tok{{Term: a, From: 9, To: -7}}, []api.Tok{{Term: a, From: 9, To: -7}, {From: -7, To: -7}}},
	} {
		y := x.run(one.toks, much, much)
		y.comes(api.Outcome{Kind: api.RunTree, Root: len(one.yield)})
		if l := y.Tree().Yield(y.Outcome().Root); !slices.Equal(l, one.yield) {
			t.Errorf("%v yield %v, want %v", one.toks, l, one.yield)
		}
	}
}

// P19.1: a depth of 0, or below it, as it is held, lets nothing stand on the stack.
func TestNoDepth(t *testing.T) {
	for _, depth := range []int{0, -1, -1 << 40, math.MinInt} {
		y := nested(t).run(word("acb"), depth, much)
		y.exceeds()
		y.has(1, 0, 0, 0, 0)
		y = nested(t).run(word("b"), depth, much)
		y.rejects(0)
		y.has(1, 0, 0, 0, 0)
		y = read(t, "S : a S | ;").run(nil, depth, much)
		y.exceeds()
		y.has(1, 0, 0, 0, 0)
	}
}

// P19.1: a depth that is greater than any count is as good as the greatest one.
func TestGreatDepth(t *testing.T) {
	for _, depth := range []int{api.MaxCount, api.MaxCount + 1, math.MaxInt} {
		x := nested(t)
		x.run(word("acb"), depth, much).makes("(S a (S c) b)")
		x.run(word("acc"), depth, much).rejects(2, b)
	}
}

// P19.1: just the depth that is wanted, and one less, at a shift, and at a reduction by a rule of nothing.
func TestJustDepth(t *testing.T) {
	x := nested(t)
	y := x.run(word("aacbb"), 4, much)
	y.makes("(S a (S a (S c) b) b)")
	y.has(9, 1, 4, 8, 15)
	y = x.run(word("aacbb"), 3, much)
	y.exceeds()
	y.has(5, 3, 3, 4, 5)
	y = x.run(word("c"), 1, much) // a reduction that takes one off needs no more room
	y.makes("(S c)")
	y.has(3, 1, 1, 2, 3)

	x = read(t, "S : a S | ;")
	y = x.run(word("aa"), 3, much)
	y.makes("(S a (S a (S)))")
	y.has(6, 1, 3, 5, 9)
	y = x.run(word("aa"), 2, much)
	y.exceeds()
	y.has(3, 2, 2, 2, 2)
	y = x.run(nil, 1, much)
	y.makes("(S)")
	y.has(2, 1, 1, 1, 1)
}

// P19.1: just the cells that are wanted, and one less, at a leaf and at nodes.
func TestJustCells(t *testing.T) {
	x := nested(t)
	for _, one := range []struct{ cells, steps, depth, nodes, used int }{
		{0, 1, 0, 0, 0}, {1, 2, 1, 1, 1}, {2, 3, 2, 2, 2}, {3, 3, 2, 2, 2}, {4, 4, 2, 3, 4}, {5, 5, 3, 4, 5}, {8, 5, 3, 4, 5},
	} {
		y := x.run(word("acb"), much, one.cells)
		y.exceeds()
		y.has(one.steps, one.depth, one.depth, one.nodes, one.used)
	}
	y := x.run(word("acb"), much, 9)
	y.makes("(S a (S c) b)")
	y.has(6, 1, 3, 5, 9)

	x = read(t, "S : ;")
	y = x.run(nil, much, 0)
	y.exceeds()
	y.has(1, 0, 0, 0, 0)
	y = x.run(nil, much, 1)
	y.makes("(S)")
	y.has(2, 1, 1, 1, 1)
	y = nested(t).run(word("b"), much, 0) // an error costs nothing
	y.rejects(0, a, c)
}

// P19.1: where the depth is at its bound, and no cell is left, nothing else is told than where one of both is so; a rejection needs neither.
func TestBothBounds(t *testing.T) {
	x := nested(t)
	x.run(word("acb"), 1, 1).exceeds()
	x.run(word("ab"), 1, 1).rejects(1)
	x.run(word("ab"), 2, 1).rejects(1, a, c)
}

// P19.1: cells are the meter's: what others have taken of it is not there, and what is made is used of it.
func TestSharedMeter(t *testing.T) {
	x := nested(t)
	m := meter.New(20)
	m.Take(2)
	one, other := engine.New(x.p, x.g, word("acb"), much, m), engine.New(x.p, x.g, word("acb"), much, m)
	for one.Step() == other.Step() && one.Outcome().Kind == api.RunGoes {
	}
	if m.Used() != 20 || one.Outcome().Kind != api.RunTree || other.Outcome().Kind != api.RunTree {
		t.Error(m.Used(), one.Outcome(), other.Outcome())
	}
	third := engine.Run(x.p, x.g, word("acb"), much, m, much)
	if third.Outcome().Kind != api.RunQuota || third.Steps() != 1 || m.Used() != 20 {
		t.Error(third.Outcome(), third.Steps(), m.Used())
	}
}

// P19.1: Run does steps until the machine has ended, or most were done; none, if most is below 1.
func TestRun(t *testing.T) {
	x := nested(t)
	for most, steps := range map[int]int{
		math.MinInt: 0, -1: 0, 0: 0, 1: 1, 2: 2, 5: 5, 6: 6, 7: 6, api.MaxCount: 6, math.MaxInt: 6,
	} {
		m := meter.New(much)
		y := trial{engine.Run(x.p, x.g, word("acb"), much, m, most), x, m}
		if y.Steps() != steps {
			t.Errorf("%d steps of %d", y.Steps(), most)
		}
		if steps < 6 {
			y.goes()
		}
		for i := steps; i < 6; i++ {
			if y.Step() != (i == 5) {
				t.Errorf("of %d the step %d ends, or not", most, i)
			}
		}
		y.makes("(S a (S c) b)")
	}
}

// P19.1, P19.2: what is rejected at the first token, in the middle, and at the end.
func TestReject(t *testing.T) {
	for _, one := range []struct {
		rules, text string
		at          int
		expected    []int
	}{
		{"S : a S b | c ;", "b", 0, []int{a, c}},
		{"S : a S b | c ;", "", 0, []int{a, c}},
		{"S : a S b | c ;", "ab", 1, []int{a, c}},
		{"S : a S b | c ;", "a", 1, []int{a, c}},
		{"S : a S b | c ;", "aacba", 4, []int{b}},
		{"S : a S b | c ;", "aacb", 4, []int{b}},
		{"S : a S b | c ;", "cb", 1, []int{0}},
		{"S : a S b | c ;", "acbacb", 3, []int{0}},
		{"S : a S | ;", "aab", 2, []int{0, a}},
		{"S : ;", "a", 0, []int{0}},
		{"S : T a | T b ; T : c | ;", "cc", 1, []int{a, b}},
		{"S : T a | T b ; T : c | ;", "", 0, []int{a, b, c}},
		{"%left a %% S : S a S | b ;", "bab", -1, nil},
		{"%left a %% S : S a S | b ;", "babb", 3, []int{0, a}},
		{"%nonassoc a %% S : S a S | b ;", "baba", 3, []int{0}},
	} {
		y := read(t, one.rules).run(word(one.text), much, much)
		if one.at < 0 {
			y.makes("(S (S b) a (S b))")
			continue
		}
		y.rejects(one.at, one.expected...)
	}
}

// P19.1: what is expected is that of the stack as it was when the last token was shifted, whatever was done since then.
func TestRejectBehindReductions(t *testing.T) {
	// T is done with both a and b, as the states of its rule are merged; with c it could have gone on.
	x := read(t, "S : a T a | b T b ; T : c | c c ;")
	y := x.run(word("acb"), much, much)
	y.rejects(2, a, c)
	y.has(4, 2, 2, 3, 4)
	x.expects(x.stack(a, T), much, a)
	y = x.run(word("bca"), much, much)
	y.rejects(2, b, c)
	y.has(4, 2, 2, 3, 4)
	// Several reductions, of which the last one takes off more than was there when c was shifted.
	x = read(t, "S : a T a | b T b ; T : a U ; U : c | c c ;")
	y = x.run(word("aacb"), much, much)
	y.rejects(3, a, c)
	y.has(6, 2, 3, 5, 8)
}

// P19.1: where none was shifted it is that of the stack as it was at the beginning.
func TestRejectAtTheBeginning(t *testing.T) {
	// T of nothing is done with c, behind which there is none, as U may not stand beside it; with a it could have gone on.
	x := read(t, "%nonassoc c %% S : T c | T U c ; T : a | ; U : %prec c ;")
	y := x.run(word("c"), much, much)
	y.rejects(0, a)
	y.has(2, 1, 1, 1, 1)
	x.expects(x.stack(T), much)
	y = x.run(word("ac"), much, much)
	y.rejects(1)
	y.has(3, 1, 1, 2, 3)
}

// P19.2: of stacks, by hand.
func TestExpected(t *testing.T) {
	x := nested(t)
	x.expects(nil, much)
	x.expects([]int{}, much)
	x.expects([]int{0}, much, a, c)
	x.expects(x.stack(a), much, a, c)
	x.expects(x.stack(a, c), much, b)
	x.expects(x.stack(a, S), much, b)
	x.expects(x.stack(c), much, 0)
	x.expects(x.stack(S), much, 0)
	x.expects(x.stack(a, S, b), much, 0)
	x.expects(x.stack(a, a, S, b), much, b)
	// The end is done with, too: no state of these is one of another bottom.
	end := x.stack(S)
	x.expects(end[1:], much, 0)
	x.expects(append(x.stack(a, c, b, c), end[1]), much, 0)
}

// P19.2: shifts only where most states stand there, or fewer.
func TestExpectedShifts(t *testing.T) {
	x := nested(t)
	for _, most := range []int{math.MinInt, -1, 0} {
		x.expects([]int{0}, most)
		x.expects(x.stack(a), most)
	}
	x.expects([]int{0}, 1, a, c)
	x.expects(x.stack(a), 1)
	x.expects(x.stack(a), 2, a, c)
	x.expects(x.stack(a, a), 2)
	x.expects(x.stack(a, a), 3, a, c)
	x.expects(x.stack(a, a), math.MaxInt, a, c)
	x.expects(x.stack(a, S), 3, b)
	x.expects(x.stack(a, S), 2)
}

// P19.2: a reduction only where that holds once it has taken its own off; so of a stack that has more at first, too; to accept however many.
func TestExpectedReductions(t *testing.T) {
	x := nested(t)
	x.expects(x.stack(a, c), 3, b)
	x.expects(x.stack(a, c), 2) // S comes on the stack, but then there is no room for b
	x.expects(x.stack(a, S, b), 1, 0)
	x.expects(x.stack(a, S, b), 0)
	x.expects(x.stack(c), 1, 0)
	for _, most := range []int{math.MinInt, -1, 0} {
		x.expects(x.stack(c), most)
		x.expects(x.stack(S), most, 0)
	}
	x.expects(x.stack(a, a, S, b), 3, b)
	x.expects(x.stack(a, a, S, b), 2)
	// A rule of nothing takes nothing off.
	x = read(t, "S : T a ; T : ;")
	x.expects([]int{0}, 2, a)
	x.expects([]int{0}, 1)
	x.expects([]int{0}, 0)
	// A reduction that takes much off may come where there are far more states than most, and then an accept.
	x = read(t, "S : a a a a a ;")
	x.expects(x.stack(a, a, a, a, a), 1, 0)
	x.expects(x.stack(a, a, a, a), 4)
	x.expects(x.stack(a, a, a, a), 5, a)
}

// P19.2: a reduction that asks for more states than stand there above the bottom one is none; nor is one behind which there is no state to go to.
func TestExpectedOfTooFew(t *testing.T) {
	x := nested(t)
	l := x.stack(a, S, b)
	x.expects(l[3:], much)
	x.expects(l[2:], much)
	x.expects(l[1:], much) // there are three, but the bottom one does not count
}

// P19.2: states that are none have no acts; below the top they do no harm as long as nothing comes down to them.
func TestExpectedOfNoStates(t *testing.T) {
	x := nested(t)
	n := x.auto.Len()
	for _, state := range []int{math.MinInt, -1, n, n + 1, 99, math.MaxInt} {
		x.expects([]int{state}, much)
		x.expects([]int{0, state}, much)
		x.expects([]int{state, 0}, much, a, c)
		x.expects([]int{state, x.auto.Go(0, c)}, much)
		x.expects([]int{state, state, x.auto.Go(0, S)}, much, 0)
	}
}

// P19.2: 1000 reductions, not one more, up to a shift, or to accept.
func TestManyReductions(t *testing.T) {
	right, behind := read(t, "S : a S | b ;"), read(t, "S : T c ; T : a T | b ;")
	for n, more := range map[int]bool{1: true, 900: true, 998: true, 999: true, 1000: false, 1001: false, 3000: false} {
		symbols := append(slices.Repeat([]int{a}, n), b)
		if more {
			right.expects(right.stack(symbols...), much, 0)
			behind.expects(behind.stack(symbols...), much, c)
		} else {
			right.expects(right.stack(symbols...), much)
			behind.expects(behind.stack(symbols...), much)
		}
		text := strings.Repeat("a", n) + "b"
		want := map[bool][]int{true: {c}}[more]
		behind.run(word(text), much, much).rejects(n+1, want...)
		behind.run(word(text+"b"), much, much).rejects(n+1, want...)
		right.run(word(text), much, much).comes(api.Outcome{Kind: api.RunTree, Root: 2*n + 1})
	}
}

// P19.1, P19.2: reductions that go on without an end cost cells, or room; what would go on so is not expected.
func TestEndless(t *testing.T) {
	pile := read(t, "%left a %left p %% S : T S | a | b ; T : %prec p ;") // T on T, with a
	pile.expects([]int{0}, much, b)
	y := pile.run(word("a"), 50, much)
	y.exceeds()
	y.has(51, 50, 50, 50, 50)
	y = pile.run(word("a"), much, 70)
	y.exceeds()
	y.has(71, 70, 70, 70, 70)
	pile.run(word("c"), much, much).rejects(0, b)

	ring := read(t, "%left b %left p %% S : T b | T c ; T : U | a ; U : T %prec p ;") // U for T, and T for U, with b
	ring.expects(ring.stack(a), much, c)
	y = ring.run(word("ab"), 3, 100)
	y.exceeds()
	y.has(51, 1, 1, 50, 99)
	y = ring.run(word("aa"), much, much)
	y.rejects(1, c)
	y = ring.run(word("ac"), much, much)
	y.makes("(S (T a) c)")
	m := meter.New(much)
	if n := engine.Run(ring.p, ring.g, word("ab"), 3, m, 5000).Steps(); n != 5000 {
		t.Error(n)
	}
}

// P19.1, P19.3: rules of nothing, at all ends of others.
func TestEmptyRules(t *testing.T) {
	x := read(t, "S : T a T U T ; T : ; U : b | ;")
	y := x.run(word("a"), much, much)
	y.makes("(S (T) a (T) (U) (T))")
	y.has(7, 1, 5, 6, 11)
	if w := y.Tree(); !w.Right(x.p, 5) || !slices.Equal(w.Yield(5), word("a")) {
		t.Error(w.Show(x.p, 5))
	}
	x.run(word("ab"), much, much).makes("(S (T) a (T) (U b) (T))")
	x.run(word("ab"), 5, much).makes("(S (T) a (T) (U b) (T))")
	x.run(word("ab"), 4, much).exceeds()
	x.run(word("aa"), much, much).rejects(1, 0, b)
}

// P19.1, P19.3: a rule of as many symbols as one may have.
func TestWideRule(t *testing.T) {
	x := read(t, "S : a b c T c b a T ; T : c ;")
	y := x.run(word("abccbac"), much, much)
	y.rejects(4, c)
	y = x.run(word("abcccbac"), 8, 21)
	y.makes("(S a b c (T c) c b a (T c))")
	y.has(12, 1, 8, 11, 21)
	x.run(word("abcccbac"), 8, 20).exceeds()
	x.run(word("abcccbac"), 7, 21).exceeds()
}

// P19.1, R5: what is handed in is not changed, and what a caller does to it, or to what it is answered, is nothing to the machine.
func TestOwnMemory(t *testing.T) {
	x := nested(t)
	for _, toks := range [][]api.Tok{line(a, a, c, b, c), line(a, a, c, b, 0), line(a, a, c, b, 0, 0)} {
		p := nested(t).p
		m := engine.New(p, x.g, toks, much, meter.New(much))
		m.Step()
		for i := range toks {
			toks[i] = api.Tok{Term: 9}
		}
		for i := range p.Rules {
			clear(p.Rules[i].Right)
			p.Rules[i] = api.Prod{}
		}
		clear(p.Terms)
		for !m.Step() {
		}
		for range 2 {
			o := m.Outcome()
			if !reflect.DeepEqual(o, api.Outcome{Kind: api.RunReject, At: 4, Expected: []int{b}}) {
				t.Error(o)
			}
			o.Expected[0] = 7
		}
	}
	toks, p := word("acb"), nested(t).p
	stack := x.stack(a, c)
	engine.Run(p, x.g, toks, much, meter.New(much), much)
	engine.Run(p, x.g, toks[:2], much, meter.New(much), much)
	l := engine.Expected(x.g, p, stack, much)
	l[0] = 7
	x.expects(stack, much, b)
	if !reflect.DeepEqual(p, x.p) || !slices.Equal(toks, word("acb")) || !slices.Equal(stack, x.stack(a, c)) {
		t.Error(p, toks, stack)
	}
}

// R5: room behind a list that is handed in is left as it is.
func TestRoomBehind(t *testing.T) {
	x := nested(t)
	room := word("acbbb")
	x.run(room[:3], much, much).makes("(S a (S c) b)")
	states := append(x.stack(a, c), 7, 7, 7)
	x.expects(states[:3], much, b)
	if !slices.Equal(room, word("acbbb")) || !slices.Equal(states[3:], []int{7, 7, 7}) {
		t.Error(room, states)
	}
}

// R6: machines of the same plan, and grid, are nothing to one another.
func TestApart(t *testing.T) {
	x := nested(t)
	texts := []string{"aacbb", "acc", "b", "", "aaaa", "acb"}
	var all []trial
	for _, s := range texts {
		all = append(all, x.start(word(s), 3, 9))
	}
	for range 20 {
		for _, y := range all {
			y.Step()
		}
	}
	for i, s := range texts {
		if is, want := all[i].all(), x.run(word(s), 3, 9).all(); is != want {
			t.Errorf("of %q it is\n%snot\n%s", s, is, want)
		}
	}
}

// P19.1: whoever takes the tree's nodes away spoils what is promised, but gets no panic.
func TestSpoilt(t *testing.T) {
	for steps := range 7 {
		y := nested(t).start(word("acb"), much, much)
		for range steps {
			y.Step()
		}
		y.Tree().Reset()
		for range 9 {
			y.Step()
		}
	}
}

// limited runs what must not need much of a stack.
func limited(f func()) {
	defer debug.SetMaxStack(debug.SetMaxStack(1 << 16))
	done := make(chan bool)
	go func() {
		defer close(done)
		f()
	}()
	<-done
}

// R1: no call's own stack grows with the machine's, however deep that is.
func TestDeep(t *testing.T) {
	const n = 200000
	x := nested(t)
	toks := word(strings.Repeat("a", n) + "c" + strings.Repeat("b", n))
	limited(func() {
		y := x.run(toks, api.MaxCount, api.MaxCount)
		y.comes(api.Outcome{Kind: api.RunTree, Root: 3*n + 1})
		y.has(3*n+3, 1, n+2, 3*n+2, 6*n+3)
		if !y.Tree().Right(x.p, 3*n+1) {
			t.Error("it is not right")
		}
		y = x.run(toks[:n], api.MaxCount, api.MaxCount)
		y.rejects(n, a, c)
		y = x.run(toks[:2*n+1], n+2, api.MaxCount)
		y.comes(api.Outcome{Kind: api.RunTree, Root: 3*n + 1})
		y = x.run(toks[:2*n], n+1, api.MaxCount)
		y.exceeds()
		y.has(n+3, n+1, n+1, n+2, n+3)
		x.expects(x.stack(append(slices.Repeat([]int{a}, n), c)...), api.MaxCount, b)
	})
}
