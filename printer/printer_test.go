package printer_test

import (
	"math"
	"slices"
	"strconv"
	"strings"
	"testing"

	"tronage/api"
	"tronage/printer"
	"tronage/reader"
)

// list is a list.
func list[T any](l ...T) []T { return l }

// same tells whether two grammars are the same one, of whose lists a nil one and an empty one are the same.
func same(a, b api.Grammar) bool {
	levels := func(a, b api.Level) bool { return a.Assoc == b.Assoc && slices.Equal(a.Names, b.Names) }
	rules := func(a, b api.Rule) bool {
		return a.Left == b.Left && slices.Equal(a.Right, b.Right) && a.Prec == b.Prec && a.Action == b.Action
	}
	return slices.Equal(a.Tokens, b.Tokens) && slices.Equal(a.Skips, b.Skips) && slices.EqualFunc(a.Levels, b.Levels, levels) &&
		a.Start == b.Start && slices.EqualFunc(a.Rules, b.Rules, rules)
}

// some is a grammar that can be read: one of each thing, and a second rule.
func some() api.Grammar {
	return api.Grammar{
		Tokens: list(api.Token{Name: "N", Pat: api.Pat{Set: "01", Many: true}}),
		Skips:  list(api.Pat{Text: "//"}),
		Levels: list(api.Level{Assoc: api.Left, Names: list("P")}),
		Start:  "E",
		Rules:  list(api.Rule{Left: "E", Right: list("E", "N"), Prec: "P", Action: "1"}, api.Rule{Left: "E"}),
	}
}

// but is that grammar, but for a change.
func but(change func(*api.Grammar)) api.Grammar {
	g := some()
	change(&g)
	return g
}

// can fails the test if a grammar can't be read, or isn't told by a text that reads back as it was, and which that text's own canonical text is.
func can(t *testing.T, g api.Grammar) {
	t.Helper()
	s, e := printer.Print(g)
	if !printer.Right(g) || e != api.OK {
		t.Errorf("Right(%v) = %v, Print tells %v", g, printer.Right(g), e)
		return
	}
	if back, d := reader.Read(s); d != (api.Diag{}) || !same(back, g) {
		t.Errorf("Read(%q) = %v, %v, want %v", s, back, d, g)
	}
	if c, d := printer.Canon(s); c != s || d != (api.Diag{}) {
		t.Errorf("Canon(%q) = %q, %v", s, c, d)
	}
}

// cannot fails the test if a grammar can be read.
func cannot(t *testing.T, g api.Grammar) {
	t.Helper()
	if s, e := printer.Print(g); printer.Right(g) || s != "" || e != api.ErrArg {
		t.Errorf("Right(%v) = %v, Print tells %q, %v", g, printer.Right(g), s, e)
	}
}

// prints fails the test if a grammar is not told by just these lines.
func prints(t *testing.T, g api.Grammar, want ...string) {
	t.Helper()
	text := strings.Join(want, "\n") + "\n"
	if s, e := printer.Print(g); s != text || e != api.OK {
		t.Errorf("Print(%v) = %q, %v, want %q", g, s, e, text)
	}
	can(t, g)
}

// canon fails the test if a text's canonical text is not made of just these lines.
func canon(t *testing.T, s string, want ...string) {
	t.Helper()
	text := strings.Join(want, "\n") + "\n"
	if c, d := printer.Canon(s); c != text || d != (api.Diag{}) {
		t.Errorf("Canon(%q) = %q, %v, want %q", s, c, d, text)
	}
}

// noCanon fails the test if a text has a canonical text, or if not just that is wrong, at that place.
func noCanon(t *testing.T, s string, e api.Errno, line, col int) {
	t.Helper()
	want := api.Diag{Code: e, At: api.Pos{Line: line, Col: col}}
	if c, d := printer.Canon(s); c != "" || d != want {
		t.Errorf("Canon(%q) = %q, %v, want %v", s, c, d, want)
	}
}

// pattern fails the test if a pattern's text is not that one.
func pattern(t *testing.T, p api.Pat, want string) {
	t.Helper()
	if s := printer.Pattern(p); s != want {
		t.Errorf("Pattern(%v) = %q, want %q", p, s, want)
	}
}

// rule fails the test if a rule's text is not that one.
func rule(t *testing.T, r api.Rule, want string) {
	t.Helper()
	if s := printer.Rule(r); s != want {
		t.Errorf("Rule(%v) = %q, want %q", r, s, want)
	}
}

// numbered are n names, none twice.
func numbered(n int) []string {
	var l []string
	for i := range n {
		l = append(l, "n"+strconv.Itoa(i))
	}
	return l
}

// P7.1, P7.2, P7.3: the chapter's examples.
func TestExamples(t *testing.T) {
	prints(t, api.Grammar{Start: "E", Rules: list(api.Rule{Left: "E", Right: list("E", "N"), Action: "1"})}, "%start E", "%%", "E : E N {1} ;")
	pattern(t, api.Pat{Set: "-0", Many: true}, `[\-0]+`)
}

// P7.1: each byte of a text stands as it is, but those of which the chapter says how.
func TestEachByteOfAText(t *testing.T) {
	others := map[byte]string{'\\': `\\`, '"': `\"`, '\n': `\n`, '\t': `\t`}
	for i := range 256 {
		want, ok := others[byte(i)]
		if !ok {
			want = string([]byte{byte(i)})
		}
		s := string([]byte{byte(i)})
		pattern(t, api.Pat{Text: s}, `"`+want+`"`)
		pattern(t, api.Pat{Text: "a" + s + s + "b"}, `"a`+want+want+`b"`)
		can(t, but(func(g *api.Grammar) { g.Tokens[0].Pat = api.Pat{Text: "a" + s + s + "b"} }))
		can(t, but(func(g *api.Grammar) { g.Skips[0] = api.Pat{Text: s} }))
	}
}

// P7.1: each byte of a set stands as it is, but those of which the chapter says how, with many and without.
func TestEachByteOfASet(t *testing.T) {
	others := map[byte]string{'\\': `\\`, ']': `\]`, '-': `\-`, '\n': `\n`, '\t': `\t`}
	all, wantAll := "", ""
	for i := range 256 {
		want, ok := others[byte(i)]
		if !ok {
			want = string([]byte{byte(i)})
		}
		s := string([]byte{byte(i)})
		all, wantAll = all+s, wantAll+want
		for _, many := range []bool{false, true} {
			behind := map[bool]string{true: "+"}[many]
			pattern(t, api.Pat{Set: s, Many: many}, "["+want+"]"+behind)
			pattern(t, api.Pat{Set: all, Many: many}, "["+wantAll+"]"+behind)
			can(t, but(func(g *api.Grammar) { g.Tokens[0].Pat = api.Pat{Set: s, Many: many} }))
			can(t, but(func(g *api.Grammar) { g.Skips[0] = api.Pat{Set: all, Many: many} }))
		}
	}
}

// P7.1: a pattern that can't be has a text, too: its Text's alone, if it has one; else its Set's as it stands.
func TestPatternsThatCannotBe(t *testing.T) {
	pattern(t, api.Pat{}, "[]")
	pattern(t, api.Pat{Many: true}, "[]+")
	pattern(t, api.Pat{Text: "a", Set: "b", Many: true}, `"a"`)
	pattern(t, api.Pat{Text: "a", Many: true}, `"a"`)
	pattern(t, api.Pat{Set: "ba-b\\", Many: true}, `[ba\-b\\]+`)
	long := strings.Repeat(`-"]`, 10000)
	pattern(t, api.Pat{Text: long}, `"`+strings.Repeat(`-\"]`, 10000)+`"`)
	pattern(t, api.Pat{Set: long}, `[`+strings.Repeat(`\-"\]`, 10000)+`]`)
}

// P7.1: a rule's text, with each part and without.
func TestRule(t *testing.T) {
	rule(t, api.Rule{Left: "E"}, "E : ;")
	rule(t, api.Rule{Left: "E", Right: []string{}}, "E : ;")
	rule(t, api.Rule{Left: "E", Right: list("a")}, "E : a ;")
	rule(t, api.Rule{Left: "Left", Right: list("a", "b", "a")}, "Left : a b a ;")
	rule(t, api.Rule{Left: "E", Prec: "P"}, "E : %prec P ;")
	rule(t, api.Rule{Left: "E", Action: "1"}, "E : {1} ;")
	rule(t, api.Rule{Left: "E", Action: " {1}\n"}, "E : { {1}\n} ;")
	rule(t, api.Rule{Left: "E", Prec: "P", Action: "$1"}, "E : %prec P {$1} ;")
	rule(t, api.Rule{Left: "E", Right: list("a", "b"), Prec: "P", Action: "$1"}, "E : a b %prec P {$1} ;")
}

// P7.1: a rule that can't be has a text, too, of its parts as they are.
func TestRulesThatCannotBe(t *testing.T) {
	rule(t, api.Rule{}, " : ;")
	rule(t, api.Rule{Right: list("", "%", "a b")}, " :  % a b ;")
	rule(t, api.Rule{Left: ";", Prec: "\n", Action: "}"}, "; : %prec \n {}} ;")
	rule(t, api.Rule{Left: "E", Right: numbered(9)}, "E : n0 n1 n2 n3 n4 n5 n6 n7 n8 ;")
	rule(t, api.Rule{Left: "E", Action: strings.Repeat("{", 500)}, "E : {"+strings.Repeat("{", 500)+"} ;")
}

// P7.2: lines of all kinds, in their order.
func TestLines(t *testing.T) {
	prints(t, some(), "%token N [01]+", `%skip "//"`, "%left P", "%start E", "%%", "E : E N %prec P {1} ;", "E : ;")
	prints(t, api.Grammar{
		Tokens: list(api.Token{Name: "b", Pat: api.Pat{Text: "+"}}, api.Token{Name: "a", Pat: api.Pat{Set: "xy"}}),
		Skips:  list(api.Pat{Set: " ", Many: true}, api.Pat{Text: "#"}, api.Pat{Set: " "}),
		Levels: list(api.Level{Assoc: api.None, Names: list("b", "c")}, api.Level{Assoc: api.Right, Names: list("a")},
			api.Level{Assoc: api.Left, Names: list("z", "y", "x")}, api.Level{Assoc: api.Right, Names: list("w")}),
		Start: "T",
		Rules: list(api.Rule{Left: "S"}, api.Rule{Left: "T", Right: list("a", "S")}, api.Rule{Left: "S", Right: list("b")}),
	}, `%token b "+"`, "%token a [xy]", "%skip [ ]+", `%skip "#"`, "%skip [ ]", "%nonassoc b c", "%right a", "%left z y x", "%right w",
		"%start T", "%%", "S : ;", "T : a S ;", "S : b ;")
	prints(t, api.Grammar{Start: "nowhere", Rules: list(api.Rule{Left: "E"})}, "%start nowhere", "%%", "E : ;")
}

// P7.2: lists that are nil, and lists that are empty, are the same.
func TestEmptyLists(t *testing.T) {
	g := api.Grammar{Tokens: []api.Token{}, Skips: []api.Pat{}, Levels: []api.Level{}, Start: "E", Rules: list(api.Rule{Left: "E", Right: []string{}})}
	prints(t, g, "%start E", "%%", "E : ;")
	g.Rules = []api.Rule{}
	cannot(t, g)
	g.Rules = nil
	cannot(t, g)
	cannot(t, api.Grammar{})
	cannot(t, but(func(g *api.Grammar) { g.Rules = nil }))
	cannot(t, but(func(g *api.Grammar) { g.Levels[0].Names = nil }))
	cannot(t, but(func(g *api.Grammar) { g.Levels[0].Names = []string{} }))
}

// places put a name at each place of a grammar that has one; where the name may be missing is told of each.
var places = []struct {
	put  func(*api.Grammar, string)
	none bool
}{
	{func(g *api.Grammar, n string) { g.Tokens[0].Name = n }, false},
	{func(g *api.Grammar, n string) {
		g.Tokens = append(g.Tokens, api.Token{Name: n, Pat: api.Pat{Text: "x"}})
	}, false},
	{func(g *api.Grammar, n string) { g.Levels[0].Names[0] = n }, false},
	{func(g *api.Grammar, n string) { g.Levels[0].Names = append(g.Levels[0].Names, n) }, false},
	{func(g *api.Grammar, n string) {
		g.Levels = append(g.Levels, api.Level{Assoc: api.None, Names: list(n)})
	}, false},
	{func(g *api.Grammar, n string) { g.Start = n }, false},
	{func(g *api.Grammar, n string) { g.Rules[0].Left = n }, false},
	{func(g *api.Grammar, n string) { g.Rules[1].Left = n }, false},
	{func(g *api.Grammar, n string) { g.Rules[0].Right[0] = n }, false},
	{func(g *api.Grammar, n string) { g.Rules[0].Right[1] = n }, false},
	{func(g *api.Grammar, n string) { g.Rules[1].Right = list(n) }, false},
	{func(g *api.Grammar, n string) { g.Rules[0].Prec = n }, true},
	{func(g *api.Grammar, n string) { g.Rules[1].Prec = n }, true},
}

// P7.2: names, at each place that has one: as long as may be, and one more; no names; none.
func TestNames(t *testing.T) {
	wrong := []string{"1", "1a", "a-", "a b", "a ", " a", "a\n", "%", "%a", "%%", "$end", "+", "a;", "a#", "\"a\"", "{a}", "\x00", "a\x80", "é", strings.Repeat("a", 33), strings.Repeat("a", 5000)}
	for i, p := range places {
		for _, n := range []string{"a", "_", "Z", "_9", "token", "a1_Z", strings.Repeat("a", 32)} {
			can(t, but(func(g *api.Grammar) { p.put(g, n) }))
		}
		for _, n := range wrong {
			cannot(t, but(func(g *api.Grammar) { p.put(g, n) }))
		}
		none := but(func(g *api.Grammar) { p.put(g, "") })
		if printer.Right(none) != p.none {
			t.Errorf("the place %d: Right(%v) = %v", i, none, !p.none)
		}
	}
}

// P7.2: no token's name comes twice, and none of levels; other names may, also tokens' and levels' the same.
func TestNamesThatComeTwice(t *testing.T) {
	a, b := api.Token{Name: "a", Pat: api.Pat{Text: "a"}}, api.Token{Name: "b", Pat: api.Pat{Text: "a"}}
	tokens := func(l ...api.Token) api.Grammar { return but(func(g *api.Grammar) { g.Tokens = l }) }
	can(t, tokens(a, b))
	cannot(t, tokens(a, a))
	cannot(t, tokens(a, b, api.Token{Name: "a", Pat: api.Pat{Set: "x"}}))
	cannot(t, tokens(b, a, a))

	levels := func(l ...[]string) api.Grammar {
		return but(func(g *api.Grammar) {
			g.Levels = nil
			for i, names := range l {
				g.Levels = append(g.Levels, api.Level{Assoc: 1 + i%3, Names: names})
			}
		})
	}
	can(t, levels(list("a", "b"), list("c")))
	can(t, levels(list("N", "E"), list("a", "A")))
	cannot(t, levels(list("a", "a")))
	cannot(t, levels(list("a", "b", "a")))
	cannot(t, levels(list("a"), list("a")))
	cannot(t, levels(list("a"), list("b", "c"), list("d", "a")))

	can(t, but(func(g *api.Grammar) {
		g.Tokens = append(g.Tokens, api.Token{Name: "P", Pat: g.Tokens[0].Pat})
		g.Skips = append(g.Skips, g.Skips[0])
		g.Rules = append(g.Rules, g.Rules...)
		g.Rules[0].Right = list("E", "E")
	}))
	can(t, but(func(g *api.Grammar) { g.Tokens[0].Name = "E" }))
}

// P7.2: as many of everything as may be, and one more.
func TestAsManyAsMayBe(t *testing.T) {
	grow := []struct {
		most int
		add  func(*api.Grammar, int)
	}{
		{api.MaxTokens, func(g *api.Grammar, n int) {
			g.Tokens = nil
			for _, name := range numbered(n) {
				g.Tokens = append(g.Tokens, api.Token{Name: name, Pat: api.Pat{Text: "x"}})
			}
		}},
		{api.MaxSkips, func(g *api.Grammar, n int) { g.Skips = slices.Repeat(g.Skips, n) }},
		{api.MaxLevels, func(g *api.Grammar, n int) {
			g.Levels = nil
			for _, name := range numbered(n) {
				g.Levels = append(g.Levels, api.Level{Assoc: api.Right, Names: list(name)})
			}
		}},
		{api.MaxRules, func(g *api.Grammar, n int) { g.Rules = slices.Repeat(g.Rules[:1], n) }},
		{api.MaxRight, func(g *api.Grammar, n int) { g.Rules[1].Right = slices.Repeat([]string{"a"}, n) }},
	}
	for _, w := range grow {
		for n := 1; n <= w.most; n++ {
			can(t, but(func(g *api.Grammar) { w.add(g, n) }))
		}
		cannot(t, but(func(g *api.Grammar) { w.add(g, w.most+1) }))
		cannot(t, but(func(g *api.Grammar) { w.add(g, 100000) }))
	}
	// A level may have any number of names.
	can(t, but(func(g *api.Grammar) { g.Levels[0].Names = numbered(700) }))
	whole := but(func(g *api.Grammar) {
		for _, w := range grow {
			w.add(g, w.most)
		}
		g.Rules = slices.Repeat([]api.Rule{{Left: "E", Right: slices.Repeat([]string{"a"}, 8)}}, 40)
	})
	can(t, whole)
}

// P7.2: the patterns that can be, and those that can't, of tokens and of skips.
func TestPatterns(t *testing.T) {
	all := make([]byte, 256)
	for i := range all {
		all[i] = byte(i)
	}
	may := []api.Pat{{Text: "a"}, {Text: strings.Repeat("a", 32)}, {Text: strings.Repeat("\n", 32)}, {Text: strings.Repeat("\xff", 32)}, {Text: "ba"}, {Text: "[a]+"},
		{Set: "a"}, {Set: "a", Many: true}, {Set: "ab"}, {Set: "\x7f\x80"}, {Set: string(all)}, {Set: string(all), Many: true}}
	mayNot := []api.Pat{{}, {Many: true}, {Text: strings.Repeat("a", 33)}, {Text: strings.Repeat("a", 5000)}, {Text: "a", Many: true}, {Text: "a", Set: "a"}, {Text: "a", Set: "a", Many: true},
		{Set: "aa"}, {Set: "ba"}, {Set: "abb"}, {Set: "acb", Many: true}, {Set: "\x80\x7f"}, {Set: "bca"}, {Set: string(all) + "\x00"}, {Set: strings.Repeat("a", 5000)}}
	for _, p := range may {
		can(t, but(func(g *api.Grammar) { g.Tokens[0].Pat = p }))
		can(t, but(func(g *api.Grammar) { g.Skips[0] = p }))
	}
	for _, p := range mayNot {
		cannot(t, but(func(g *api.Grammar) { g.Tokens[0].Pat = p }))
		cannot(t, but(func(g *api.Grammar) { g.Skips[0] = p }))
		cannot(t, but(func(g *api.Grammar) { g.Tokens = append(g.Tokens, api.Token{Name: "last", Pat: p}) }))
		cannot(t, but(func(g *api.Grammar) { g.Skips = append(g.Skips, p) }))
	}
}

// P7.2: the actions that can be, and those that can't.
func TestActions(t *testing.T) {
	long := strings.Repeat("a", 200)
	for _, a := range []string{"", " ", "1", "{}", "{{{}}}", "{{{}}{{}}}{}", "a{b}c", "\n", "#", "%%", "\"", "\\", "\x00\xff", long, strings.Repeat("{}", 100), "{{{" + strings.Repeat("x", 194) + "}}}"} {
		can(t, but(func(g *api.Grammar) { g.Rules[0].Action = a }))
		can(t, but(func(g *api.Grammar) { g.Rules[1].Action = a }))
	}
	// No text and no comment is told apart in an action, so a } in these closes, too.
	for _, a := range []string{"#}\n{", "#{", "{", "}", "}{", "{}}", "{{}", "}{}{", "} {", "} ; E : {", "}#", "} # {", "a}", "{a", "} ", "{{{{}}}}", "{{{{", "\"}\"", "\\}", "\\{", long + "a", strings.Repeat("{}", 101), strings.Repeat("a", 5000), strings.Repeat("{", 200)} {
		cannot(t, but(func(g *api.Grammar) { g.Rules[0].Action = a }))
		cannot(t, but(func(g *api.Grammar) { g.Rules[1].Action = a }))
	}
}

// P7.2: a level associates in one of three ways.
func TestAssocs(t *testing.T) {
	for assoc, word := range map[int]string{api.Left: "left", api.Right: "right", api.None: "nonassoc"} {
		prints(t, api.Grammar{Levels: list(api.Level{Assoc: assoc, Names: list("a", "b")}), Start: "E", Rules: list(api.Rule{Left: "E"})},
			"%"+word+" a b", "%start E", "%%", "E : ;")
	}
	for _, assoc := range []int{math.MinInt, -1, 0, 4, 5, 257, math.MaxInt} {
		cannot(t, but(func(g *api.Grammar) { g.Levels[0].Assoc = assoc }))
		cannot(t, but(func(g *api.Grammar) { g.Levels = append(g.Levels, api.Level{Assoc: assoc, Names: list("q")}) }))
	}
}

// sized is a grammar whose text has so many bytes, from 318 to 6288: of a rule without an action, and of thirty with as long ones as are left.
func sized(n int) api.Grammar {
	g := api.Grammar{Start: "E", Rules: list(api.Rule{Left: "E"})}
	left := n - len("%start E\n%%\nE : ;\n")
	for i := range 30 {
		g.Rules = append(g.Rules, api.Rule{Left: "E", Action: strings.Repeat("a", (left+i)/30-len("E : {} ;\n"))})
	}
	return g
}

// P7.2: a text may have MaxSource bytes, and no more; a grammar that is told by a longer one can be read nevertheless.
func TestLongTexts(t *testing.T) {
	for n := 3900; n <= api.MaxSource; n++ {
		if s, e := printer.Print(sized(n)); len(s) != n || e != api.OK {
			t.Errorf("a text of %d bytes: %d, %v", n, len(s), e)
		}
	}
	can(t, sized(api.MaxSource))
	tooLong := []api.Grammar{sized(api.MaxSource + 1), sized(api.MaxSource + 2), sized(6288),
		but(func(g *api.Grammar) { g.Levels[0].Names = numbered(1000) }),
		but(func(g *api.Grammar) { g.Levels[0].Names = numbered(100000) })}
	for _, g := range tooLong {
		if s, e := printer.Print(g); s != "" || e != api.ErrLong || !printer.Right(g) {
			t.Errorf("Print tells %q, %v, Right %v", s, e, printer.Right(g))
		}
		g.Start = ""
		cannot(t, g) // ErrArg is told first
	}
}

// P7.3: texts that can be read.
func TestCanon(t *testing.T) {
	canon(t, "%%E:;", "%start E", "%%", "E : ;")
	canon(t, "# A grammar.\n%skip[ \\n]+%right R#\n%token N[0-9a]+ %left P Q %%\nE:E P\tE{ $1 + $3 }|N|%prec Q{}|;F:{{}} ;",
		"%token N [0123456789a]+", `%skip [\n ]+`, "%right R", "%left P Q", "%start E", "%%", "E : E P E { $1 + $3 } ;", "E : N ;", "E : %prec Q ;", "E : ;", "F : {{}} ;")
	canon(t, `%start F %token a "\"\\\n\t'" %%E:;`, `%token a "\"\\\n\t'"`, "%start F", "%%", "E : ;")
	canon(t, `%token a [\]\-\\\n\t^] %% E : a ;`, `%token a [\t\n\-\\\]^]`, "%start E", "%%", "E : a ;")
}

// P7.3: texts that can't be read are told what the reader tells; of an empty text, too.
func TestCanonOfWrongTexts(t *testing.T) {
	noCanon(t, "", api.ErrWord, 1, 1)
	noCanon(t, "%% E : ; F", api.ErrWord, 1, 11)
	noCanon(t, "%left A A %%", api.ErrTwice, 1, 9)
	noCanon(t, "%%\nE : |?", api.ErrByte, 2, 6)
	noCanon(t, "%%\nE : {", api.ErrOpen, 2, 5)
	noCanon(t, "%% E : {{{{{", api.ErrDeep, 1, 12)
	noCanon(t, "%% E : a a a a a a a a a ;", api.ErrFull, 1, 24)
	noCanon(t, "%%\n\n "+strings.Repeat("a", 33), api.ErrLong, 3, 2)
	noCanon(t, strings.Repeat(" ", 4001), api.ErrLong, 1, 1)
	noCanon(t, strings.Repeat("\n", 4001), api.ErrLong, 1, 1)
}

// P7.3: where a text can be read, but its grammar's text is too long, that is told at the first place of all, wherever the grammar begins.
func TestCanonThatIsTooLong(t *testing.T) {
	tokens := ""
	for _, name := range numbered(17) {
		tokens += "%token " + name + " [\x00-\xff]\n"
	}
	noCanon(t, "\n#\n "+tokens+" %% E : ;", api.ErrLong, 1, 1)

	// As many bytes as may be, and one more: the line of start is left out of what is read.
	for n := api.MaxSource - 9; n <= api.MaxSource+9; n++ {
		s := "%%\n"
		for _, r := range sized(n).Rules {
			s += printer.Rule(r) + "\n"
		}
		if n <= api.MaxSource {
			canon(t, s, "%start E", strings.TrimSuffix(s, "\n"))
		} else {
			noCanon(t, s, api.ErrLong, 1, 1)
		}
	}
}

// R5: what is handed in is not changed, and what is answered is the same each time.
func TestNothingIsChanged(t *testing.T) {
	g := some()
	g.Rules[0].Right = append(make([]string, 0, 9), "E", "N")
	g.Levels[0].Names = append(make([]string, 0, 9), "P")
	first, _ := printer.Print(g)
	printer.Rule(g.Rules[0])
	second, _ := printer.Print(g)
	if first != second || !same(g, some()) {
		t.Error(first, second, g)
	}
	if l := g.Rules[0].Right[:9]; !slices.Equal(l[2:], make([]string, 7)) {
		t.Error(l)
	}
	if l := g.Levels[0].Names[:9]; !slices.Equal(l[1:], make([]string, 8)) {
		t.Error(l)
	}
}
