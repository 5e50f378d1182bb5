package names_test

import (
	"math"
	"slices"
	"strconv"
	"strings"
	"testing"

	"tronage/api"
	"tronage/names"
	"tronage/reader"
)

// read is the grammar of a text that can be read.
func read(t *testing.T, s string) api.Grammar {
	t.Helper()
	g, d := reader.Read(s)
	if d.Code != api.OK {
		t.Fatalf("Read(%q) tells %v", s, d)
	}
	return g
}

// plan is the plan of a text's grammar that has one.
func plan(t *testing.T, s string) api.Plan {
	t.Helper()
	p, e, name := names.Of(read(t, s))
	if e != api.OK || name != "" {
		t.Fatalf("Of the grammar %q tells %d, %q", s, e, name)
	}
	return p
}

// same tells whether two plans are the same one, of whose lists a nil one and an empty one are the same.
func same(a, b api.Plan) bool {
	rules := func(a, b api.Prod) bool {
		return a.Left == b.Left && slices.Equal(a.Right, b.Right) && a.Level == b.Level
	}
	return slices.Equal(a.Terms, b.Terms) && slices.Equal(a.Vars, b.Vars) && slices.EqualFunc(a.Rules, b.Rules, rules) &&
		slices.Equal(a.Levels, b.Levels) && slices.Equal(a.Assocs, b.Assocs) && slices.Equal(a.Acts, b.Acts)
}

// refused fails the test if a grammar has a plan, or if not just that is wrong with it.
func refused(t *testing.T, g api.Grammar, e api.Errno, name string) {
	t.Helper()
	if p, got, n := names.Of(g); !same(p, api.Plan{}) || got != e || n != name {
		t.Errorf("Of(%v) = %v, %d, %q, want %d, %q", g, p, got, n, e, name)
	}
}

// P8.1: the chapter's examples.
func TestExamples(t *testing.T) {
	const rest = "%token N [0-9] %token P \"+\" %left P %% E : E P E | N ;"
	want := api.Plan{
		Terms: []string{"$end", "N", "P"}, Vars: []string{"E"},
		Rules:  []api.Prod{{Left: 4, Right: []int{3}}, {Left: 3, Right: []int{3, 2, 3}, Level: 1}, {Left: 3, Right: []int{1}}},
		Levels: []int{0, 0, 1}, Assocs: []int{0, api.Left}, Acts: []string{"", "", ""},
	}
	if p := plan(t, rest); !same(p, want) || names.Accept(p) != 4 {
		t.Errorf("%v, of which %d is accepted", p, names.Accept(p))
	}
	refused(t, read(t, "%token E \"e\" "+rest), api.ErrTwice, "E")
	refused(t, read(t, "%% E : F ;"), api.ErrName, "F")
}

// P8.1: the smallest grammar there is.
func TestSmallest(t *testing.T) {
	p := plan(t, "%% E : ;")
	want := api.Plan{
		Terms: []string{"$end"}, Vars: []string{"E"}, Rules: []api.Prod{{Left: 2, Right: []int{1}}, {Left: 1}},
		Levels: []int{0}, Assocs: []int{0}, Acts: []string{"", ""},
	}
	if !same(p, want) {
		t.Error(p)
	}
}

// P8.1: tokens have their numbers by their declarations, variables by where they are Lefts first, whatever stands in rules, and whatever Start is; the rules stand in their order, with their actions.
func TestOrder(t *testing.T) {
	p := plan(t, "%token b \"b\" %token a \"a\" %start C %% B : A C b {1} | {2} ; C : a ; B : C ; A : B {{3}} ;")
	want := api.Plan{
		Terms: []string{"$end", "b", "a"}, Vars: []string{"B", "C", "A"},
		Rules:  []api.Prod{{Left: 6, Right: []int{4}}, {Left: 3, Right: []int{5, 4, 1}}, {Left: 3}, {Left: 4, Right: []int{2}}, {Left: 3, Right: []int{4}}, {Left: 5, Right: []int{3}}},
		Levels: []int{0, 0, 0}, Assocs: []int{0}, Acts: []string{"", "1", "2", "", "", "{3}"},
	}
	if !same(p, want) {
		t.Error(p)
	}
}

// P8.1: ErrArg, and no name, of a grammar that can't be read, whatever else is wrong with it.
func TestGrammarsThatCannotBeRead(t *testing.T) {
	const text = "%token N [0-9] %left P %% E : N %prec P ;"
	plan(t, text)
	long := strings.Repeat("a", 33)
	pat := api.Pat{Text: "a"}
	for _, spoil := range []func(*api.Grammar){
		func(g *api.Grammar) { *g = api.Grammar{} },
		func(g *api.Grammar) { g.Start = "" },
		func(g *api.Grammar) { g.Start = "$accept" },
		func(g *api.Grammar) { g.Rules = nil },
		func(g *api.Grammar) { g.Rules = slices.Repeat(g.Rules, 41) },
		func(g *api.Grammar) { g.Rules[0].Left = "" },
		func(g *api.Grammar) { g.Rules[0].Left = "$end" },
		func(g *api.Grammar) { g.Rules[0].Left, g.Start = long, long },
		func(g *api.Grammar) { g.Rules[0].Right[0] = "$end" },
		func(g *api.Grammar) { g.Rules[0].Right = slices.Repeat(g.Rules[0].Right, 9) },
		func(g *api.Grammar) { g.Rules[0].Prec = "+" },
		func(g *api.Grammar) { g.Rules[0].Action = "}" },
		func(g *api.Grammar) { g.Tokens[0].Name = "0" },
		func(g *api.Grammar) { g.Tokens[0].Pat = api.Pat{} },
		func(g *api.Grammar) { g.Tokens = append(g.Tokens, g.Tokens[0]) },
		func(g *api.Grammar) { g.Tokens = append(g.Tokens, api.Token{Name: long, Pat: pat}) },
		func(g *api.Grammar) { g.Tokens = append(g.Tokens, numbered(20)...) },
		func(g *api.Grammar) { g.Skips = append(g.Skips, api.Pat{}) },
		func(g *api.Grammar) { g.Levels[0].Assoc = 0 },
		func(g *api.Grammar) { g.Levels[0].Names = nil },
		func(g *api.Grammar) { g.Levels = append(g.Levels, g.Levels[0]) },
	} {
		g := read(t, text)
		spoil(&g)
		refused(t, g, api.ErrArg, "")
		g.Tokens = append(g.Tokens, api.Token{Name: "E", Pat: pat})
		refused(t, g, api.ErrArg, "")
		g = read(t, "%token N [0-9] %left P %start G %% E : F %prec Q ;")
		spoil(&g)
		refused(t, g, api.ErrArg, "")
	}
}

// P8.1: the names that are refused, each of its kind alone.
func TestNamesThatAreRefused(t *testing.T) {
	for _, x := range []struct {
		s    string
		e    api.Errno
		name string
	}{
		{"%token E \"e\" %% E : ;", api.ErrTwice, "E"},
		{"%token N \"n\" %token F \"f\" %% E : F N ; F : ;", api.ErrTwice, "F"},
		{"%token F \"f\" %token E \"e\" %% E : ; F : ;", api.ErrTwice, "F"}, // the tokens' order, not the rules'
		{"%% E : e ;", api.ErrName, "e"},
		{"%token N \"n\" %% E : N F E G ;", api.ErrName, "F"},
		{"%% E : ; F : E F ; F : F E G ; G : H ;", api.ErrName, "H"},
		{"%left P %% E : P ;", api.ErrName, "P"}, // a level's name is no symbol's
		{"%% E : %prec P ;", api.ErrName, "P"},
		{"%left P %right Q %% E : %prec Q | %prec P | %prec p ;", api.ErrName, "p"},
		{"%token N \"n\" %left P %% E : N %prec N ;", api.ErrName, "N"}, // a token's name is no level's
		{"%left P %% E : %prec E ;", api.ErrName, "E"},
		{"%start F %% E : ;", api.ErrName, "F"},
		{"%token N \"n\" %start N %% E : N ;", api.ErrName, "N"},
		{"%left P %start P %% E : %prec P ;", api.ErrName, "P"},
	} {
		refused(t, read(t, x.s), x.e, x.name)
	}
}

// P8.1, R2: of two names that are wrong the first one is told: of tokens ahead of those of rules, of a rule's Right ahead of its Prec, of a rule ahead of those of the next one, of rules ahead of Start.
func TestWhichIsToldFirst(t *testing.T) {
	const both = "%token N \"n\" %token E \"e\" "
	refused(t, read(t, both+"%start S %% E : A %prec B | C %prec D ; N : ;"), api.ErrTwice, "N")
	refused(t, read(t, "%token E \"e\" %% F : A ; E : ;"), api.ErrTwice, "E")
	refused(t, read(t, "%start S %% E : A B %prec C | D %prec F ;"), api.ErrName, "A")
	refused(t, read(t, "%start S %% E : E %prec C | D %prec F ;"), api.ErrName, "C")
	refused(t, read(t, "%start S %% E : E | D %prec F ;"), api.ErrName, "D")
	refused(t, read(t, "%start S %% E : E | E %prec F ;"), api.ErrName, "F")
	refused(t, read(t, "%start S %% E : E | E ;"), api.ErrName, "S")
}

// P8.1: what terminals' levels are, and how they associate.
func TestLevels(t *testing.T) {
	const tokens = "%token a \"a\" %token b \"b\" %token c \"c\" "
	for _, x := range []struct {
		s              string
		levels, assocs []int
	}{
		{"", []int{0, 0, 0, 0}, []int{0}},
		{"%left a", []int{0, 1, 0, 0}, []int{0, 1}},
		{"%right c b", []int{0, 0, 1, 1}, []int{0, 2}},
		{"%left d e", []int{0, 0, 0, 0}, []int{0, 1}}, // of no symbol
		{"%nonassoc E", []int{0, 0, 0, 0}, []int{0, 3}},
		{"%nonassoc d %left c %right e a", []int{0, 3, 0, 2}, []int{0, 3, 1, 2}},
		{"%left a %left b %left c", []int{0, 1, 2, 3}, []int{0, 1, 1, 1}},
		{"%right c %nonassoc b %left a", []int{0, 3, 2, 1}, []int{0, 2, 3, 1}},
	} {
		if p := plan(t, tokens+x.s+" %% E : ;"); !slices.Equal(p.Levels, x.levels) || !slices.Equal(p.Assocs, x.assocs) {
			t.Errorf("%s: %v, %v", x.s, p.Levels, p.Assocs)
		}
	}
}

// P8.1: a rule's level is that of its Prec, or else that of its last terminal, if that has none, too.
func TestRulesLevels(t *testing.T) {
	for right, level := range map[string]int{
		"":                   0,
		"E":                  0,
		"E F E":              0,
		"n":                  0,
		"a":                  1,
		"b":                  2,
		"E a E":              1,
		"a b":                2,
		"b a":                1,
		"b E a F":            1,
		"a b n":              0, // the last one has no level
		"b n E":              0,
		"n a E":              1,
		"%prec U":            3,
		"E %prec U":          3,
		"a %prec U":          3,
		"a b n %prec a":      1,
		"b %prec a":          1,
		"n %prec b":          2,
		"a %prec F":          2, // F is a variable, and a level's name
		"a E b n F E E E":    0,
		"b E a F E E E E":    1,
		"n n n n n n n b":    2,
		"F F F F F F F F":    0,
		"a b a b a b n E ":   0,
		"a b a b a n b E ":   2,
		"n %prec a {$1}":     1,
		"F %prec b {{}} | n": 2,
	} {
		p := plan(t, "%token a \"a\" %token b \"b\" %token n \"n\" %left a %right b F %nonassoc U %% E : "+right+" ; F : ;")
		if p.Rules[1].Level != level || p.Rules[0].Level != 0 {
			t.Errorf("%s: %v", right, p.Rules)
		}
	}
}

// numbered are n tokens, none twice.
func numbered(n int) []api.Token {
	var l []api.Token
	for i := range n {
		l = append(l, api.Token{Name: "t" + strconv.Itoa(i), Pat: api.Pat{Text: "x"}})
	}
	return l
}

// full is a grammar with so many tokens, of which each has a level while there are such, and so many rules, of so many symbols, each of a Left of its own.
func full(tokens, levels, rules, right int) api.Grammar {
	g := api.Grammar{Tokens: numbered(tokens), Start: "v" + strconv.Itoa(rules-1)}
	for i := range levels {
		g.Levels = append(g.Levels, api.Level{Assoc: 1 + i%3, Names: []string{g.Tokens[tokens-1-i].Name}})
	}
	for i := range rules {
		r := api.Rule{Left: "v" + strconv.Itoa(i), Action: strconv.Itoa(i)}
		for j := range right - 1 {
			r.Right = append(r.Right, "v"+strconv.Itoa((i+j)%rules))
		}
		r.Right = append(r.Right, g.Tokens[i%tokens].Name)
		g.Rules = append(g.Rules, r)
	}
	return g
}

// P8.1: as many tokens, levels, rules and symbols as may be, and one more.
func TestAsManyAsMayBe(t *testing.T) {
	const tokens, levels, rules, right = api.MaxTokens, api.MaxLevels, api.MaxRules, api.MaxRight
	p, e, _ := names.Of(full(tokens, levels, rules, right))
	if e != api.OK || len(p.Terms) != 21 || len(p.Vars) != 40 || len(p.Rules) != 41 || len(p.Levels) != 21 || len(p.Assocs) != 11 || len(p.Acts) != 41 {
		t.Fatal(p, e)
	}
	if p.Rules[0].Left != 61 || !slices.Equal(p.Rules[0].Right, []int{60}) || p.Rules[0].Level != 0 || p.Acts[0] != "" {
		t.Error(p.Rules[0])
	}
	for i := range rules {
		r, term, level := p.Rules[i+1], 1+i%20, 0
		if term > 10 {
			level = 21 - term
		}
		var want []int
		for j := range right - 1 {
			want = append(want, 21+(i+j)%40)
		}
		if r.Left != 21+i || !slices.Equal(r.Right, append(want, term)) || r.Level != level || p.Acts[i+1] != strconv.Itoa(i) {
			t.Errorf("the rule %d: %v, %s", i+1, r, p.Acts[i+1])
		}
	}
	for i := range 10 {
		if p.Levels[i+1] != 0 || p.Levels[20-i] != i+1 || p.Assocs[i+1] != 1+i%3 {
			t.Error(p.Levels, p.Assocs)
		}
	}
	refused(t, full(tokens+1, levels, rules, right), api.ErrArg, "")
	refused(t, full(tokens, levels+1, rules, right), api.ErrArg, "")
	refused(t, full(tokens, levels, rules+1, right), api.ErrArg, "")
	refused(t, full(tokens, levels, rules, right+1), api.ErrArg, "")
}

// P8.1: a level may have any number of names.
func TestLongLevel(t *testing.T) {
	g := read(t, "%token N \"n\" %left P %% E : N | %prec N ;")
	var long []string
	for i := range 100000 {
		long = append(long, "l"+strconv.Itoa(i))
	}
	g.Levels[0].Names = append(long, "N")
	if p, e, _ := names.Of(g); e != api.OK || p.Levels[1] != 1 || p.Rules[1].Level != 1 || p.Rules[2].Level != 1 {
		t.Error(p, e)
	}
}

// some is a plan of seven symbols.
func some(t *testing.T) api.Plan {
	return plan(t, "%token N [0-9] %token P \"+\" %left P %right U %start F %% E : E P E | N ; F : E %prec U | ; G : N F G P ;")
}

// P8.2: names, by numbers: those of terminals, of variables, of the accepted one; and none.
func TestName(t *testing.T) {
	p := some(t)
	for sym, name := range []string{"$end", "N", "P", "E", "F", "G", "$accept", ""} {
		if s := names.Name(p, sym); s != name {
			t.Errorf("Name of %d = %q, want %q", sym, s, name)
		}
	}
	for _, sym := range []int{math.MinInt, math.MinInt + 1, -1000, -2, -1, 8, 9, 1000, math.MaxInt - 1, math.MaxInt} {
		if s := names.Name(p, sym); s != "" {
			t.Errorf("Name of %d = %q", sym, s)
		}
	}
}

// P8.2: numbers, by names; those that are none, or no symbol's, have none; the accepted one has none, too, as it is neither a terminal nor a variable.
func TestSym(t *testing.T) {
	p := some(t)
	for sym, name := range []string{"$end", "N", "P", "E", "F", "G"} {
		if got := names.Sym(p, name); got != sym {
			t.Errorf("Sym of %q = %d, want %d", name, got, sym)
		}
	}
	for _, name := range []string{"", "$accept", "U", "n", "e", "$", "end", "$End", "$end ", " N", "N ", "NP", "EF", "0", "3", ":", "E : N", "\x00", "é", strings.Repeat("N", 100000)} {
		if got := names.Sym(p, name); got != -1 {
			t.Errorf("Sym of %q = %d", name, got)
		}
	}
}

// P8.2: terminals are the end and the tokens; a number that is none is no terminal's.
func TestTerm(t *testing.T) {
	p := some(t)
	for _, sym := range []int{0, 1, 2} {
		if !names.Term(p, sym) {
			t.Errorf("%d is no terminal", sym)
		}
	}
	for _, sym := range []int{math.MinInt, -1000, -2, -1, 3, 4, 5, 6, 7, 1000, math.MaxInt} {
		if names.Term(p, sym) {
			t.Errorf("%d is a terminal", sym)
		}
	}
	if smallest := plan(t, "%% E : ;"); !names.Term(smallest, 0) || names.Term(smallest, 1) {
		t.Error("without tokens not just the end is a terminal")
	}
}

// P8.2: the accepted one is behind the variables.
func TestAccept(t *testing.T) {
	for s, sym := range map[string]int{
		"%% E : ;":                         2,
		"%token N \"n\" %% E : ;":          3,
		"%% E : | E ;":                     2,
		"%% E : ; F : ; E : F ;":           3,
		"%token N \"n\" %% E : F ; F : N;": 4,
	} {
		if p := plan(t, s); names.Accept(p) != sym || names.Name(p, sym) != "$accept" || names.Name(p, sym-1) == "$accept" {
			t.Errorf("%s: %d is accepted", s, names.Accept(p))
		}
	}
	if p := some(t); names.Accept(p) != 6 {
		t.Errorf("%d is accepted", names.Accept(p))
	}
}

// P8.2: rules are shown with the accepted one first, and without what they have beside symbols; a rule that isn't there is shown empty.
func TestShow(t *testing.T) {
	p := some(t)
	for rule, s := range []string{"$accept : F", "E : E P E", "E : N", "F : E", "F :", "G : N F G P", ""} {
		if got := names.Show(p, rule); got != s {
			t.Errorf("Show of %d = %q, want %q", rule, got, s)
		}
	}
	for _, rule := range []int{math.MinInt, -1000, -2, -1, 7, 1000, math.MaxInt} {
		if s := names.Show(p, rule); s != "" {
			t.Errorf("Show of %d = %q", rule, s)
		}
	}
}

// P8.3: each name has one number, and each number one name.
func TestNamesAndNumbers(t *testing.T) {
	for _, p := range []api.Plan{plan(t, "%% E : ;"), some(t), plan(t, "%token a \"a\" %token A \"A\" %left L %% b : ; B : a A ; L : ;")} {
		seen := map[string]bool{}
		for sym := range names.Accept(p) {
			name := names.Name(p, sym)
			if name == "" || seen[name] || names.Sym(p, name) != sym {
				t.Errorf("%v: the number of %q is %d, of which that is the name", p, name, sym)
			}
			seen[name] = true
		}
	}
}

// R5: what is handed in is not changed, and what is answered shares nothing with it, nor do an answer's lists with each other.
func TestNothingIsShared(t *testing.T) {
	const text = "%token N \"n\" %left N Q %% E : E N | E N | %prec Q {1} ; F : ;"
	g := read(t, text)
	g.Rules[1].Right = g.Rules[0].Right
	g.Rules[2].Right = make([]string, 0, 8)
	p, _, _ := names.Of(g)
	if !same(p, plan(t, text)) {
		t.Error(p)
	}
	for i := range p.Rules {
		right := p.Rules[i].Right
		for j := range right {
			right[j] += 10 * (i + 1)
		}
		_ = append(right, -1, -2, -3)
	}
	p.Levels[1], p.Assocs[1], p.Terms[1], p.Vars[0], p.Acts[1] = 7, 8, "x", "y", "z"
	for _, l := range [][]int{p.Levels, p.Assocs} {
		_ = append(l, -1, -2, -3)
	}
	for _, l := range [][]string{p.Terms, p.Vars, p.Acts} {
		_ = append(l, "a", "b", "c")
	}
	if !slices.Equal(p.Levels, []int{0, 7}) || !slices.Equal(p.Assocs, []int{0, 8}) || !slices.Equal(p.Terms, []string{"$end", "x"}) || !slices.Equal(p.Vars, []string{"y", "F"}) || !slices.Equal(p.Acts, []string{"", "z", "", "1", ""}) {
		t.Error(p)
	}
	if !slices.Equal(p.Rules[0].Right, []int{12}) || !slices.Equal(p.Rules[1].Right, []int{22, 21}) || !slices.Equal(p.Rules[2].Right, []int{32, 31}) || len(p.Rules[3].Right) != 0 {
		t.Error(p.Rules)
	}
	if again, _, _ := names.Of(g); !same(again, plan(t, text)) {
		t.Error(again)
	}
	if !slices.Equal(g.Rules[0].Right, []string{"E", "N"}) || !slices.Equal(g.Rules[2].Right[:8], make([]string, 8)) || !slices.Equal(g.Levels[0].Names, []string{"N", "Q"}) {
		t.Error(g)
	}
}

// R5: nothing that is asked of a plan changes it.
func TestPlansAreNotChanged(t *testing.T) {
	p := some(t)
	for i := -2; i < 10; i++ {
		names.Show(p, i)
		names.Name(p, i)
		names.Term(p, i)
		names.Sym(p, names.Name(p, i))
	}
	if !same(p, some(t)) {
		t.Error(p)
	}
}
