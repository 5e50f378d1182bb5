package reader_test

import (
	"math"
	"reflect"
	"slices"
	"strconv"
	"strings"
	"testing"

	"tronage/api"
	"tronage/lexer"
	"tronage/reader"
)

// pos is a place.
func pos(line, col int) api.Pos { return api.Pos{Line: line, Col: col} }

// list is a list.
func list[T any](l ...T) []T { return l }

// copied is a list of its own, nil if it is empty.
func copied[T any](l []T) []T { return append([]T(nil), l...) }

// plain is a grammar that shares nothing, and whose empty lists are nil, as those are the same.
func plain(g api.Grammar) api.Grammar {
	g.Tokens, g.Skips, g.Levels, g.Rules = copied(g.Tokens), copied(g.Skips), copied(g.Levels), copied(g.Rules)
	for i := range g.Levels {
		g.Levels[i].Names = copied(g.Levels[i].Names)
	}
	for i := range g.Rules {
		g.Rules[i].Right = copied(g.Rules[i].Right)
	}
	return g
}

// same tells whether two grammars are the same one.
func same(a, b api.Grammar) bool { return reflect.DeepEqual(plain(a), plain(b)) }

// reads fails the test if a text is not just that grammar.
func reads(t *testing.T, s string, want api.Grammar) {
	t.Helper()
	g, d := reader.Read(s)
	if d != (api.Diag{}) || !same(g, want) {
		t.Errorf("Read(%q) = %v, %d, want %v", s, g, d, want)
	}
}

// isWrong fails the test if not just that is wrong with a text, at that place, or if it is a grammar, too.
func isWrong(t *testing.T, s string, e api.Errno, line, col int) {
	t.Helper()
	g, d := reader.Read(s)
	if want := (api.Diag{Code: e, At: pos(line, col)}); d != want || !same(g, api.Grammar{}) {
		t.Errorf("Read(%q) = %v, %d, want %d", s, g, d, want)
	}
}

// wrongAt fails the test if not just that is wrong with a text at what stands behind the byte ^ in it, which is left out; in other lines, too.
func wrongAt(t *testing.T, e api.Errno, s string) {
	t.Helper()
	for _, s := range []string{s, "#\n \t" + s} {
		ahead, behind, ok := strings.Cut(s, "^")
		if !ok {
			t.Fatalf("no ^ in %q", s)
		}
		p := lexer.At(ahead, len(ahead))
		isWrong(t, ahead+behind, e, p.Line, p.Col)
	}
}

// someMarks are one of each kind, and all words; the empty one is the end.
var someMarks = []string{"E", "%token", "%skip", "%left", "%right", "%nonassoc", "%start", "%prec", "%%", `"E"`, "[E]", "+", ":", "|", ";", "{E}", ""}

// wrongEach fails the test if not just that is wrong behind a text, at each of some marks, whatever stands behind that.
func wrongEach(t *testing.T, e api.Errno, ahead string, marks []string) {
	t.Helper()
	for _, m := range marks {
		wrongAt(t, e, ahead+" ^"+m)
		if m != "" {
			wrongAt(t, e, ahead+" ^"+m+" E : ; %% %left A A")
		}
	}
}

// onlyThese fails the test if behind a text, which is right so far, just these marks may not stand.
func onlyThese(t *testing.T, ahead string, may ...string) {
	t.Helper()
	for _, m := range someMarks {
		if !slices.Contains(may, m) {
			wrongEach(t, api.ErrWord, ahead, []string{m})
			continue
		}
		whole := ahead + " " + m
		if g, d := reader.Read(whole); d.Code != api.OK && d.At == lexer.At(whole, len(ahead)+1) {
			t.Errorf("Read(%q) = %v, %v", whole, g, d)
		}
	}
}

// rule is a rule, its alternative as words.
func rule(left, right string) api.Rule { return api.Rule{Left: left, Right: strings.Fields(right)} }

// ends is what declarations may end with.
const ends = " %% E : ;"

// ended is a grammar with the rule of ends.
func ended(g api.Grammar) api.Grammar {
	g.Start, g.Rules = "E", list(rule("E", ""))
	return g
}

// text is a pattern that is a text; set is one of a class.
func text(s string) api.Pat           { return api.Pat{Text: s} }
func set(s string, many bool) api.Pat { return api.Pat{Set: s, Many: many} }

// P6.1, P6.2: the chapter's examples.
func TestExamples(t *testing.T) {
	reads(t, "%token N [0-9]+ %% E : E N {1} | ;", api.Grammar{
		Tokens: list(api.Token{Name: "N", Pat: set("0123456789", true)}),
		Start:  "E",
		Rules:  list(api.Rule{Left: "E", Right: list("E", "N"), Action: "1"}, api.Rule{Left: "E"}),
	})
	isWrong(t, "%% E : ; F", api.ErrWord, 1, 11)
	isWrong(t, "%left A A %%", api.ErrTwice, 1, 9)
}

// P6.1: all of it at once.
func TestAGrammar(t *testing.T) {
	reads(t, `# A grammar.
%skip "//"  %left P Q
%token N [0-9]+ %start S
%nonassoc M
%token P "+" %skip [ \n]+ %token W [ab]
%right R N %%
S : E ; E : E P E { $1 + $3 }
  | M E %prec M | N %prec R {{}} | %prec Q {1} | {2} | %prec P | ;`,
		api.Grammar{
			Tokens: list(api.Token{Name: "N", Pat: set("0123456789", true)}, api.Token{Name: "P", Pat: text("+")}, api.Token{Name: "W", Pat: set("ab", false)}),
			Skips:  list(text("//"), set("\n ", true)),
			Levels: list(api.Level{Assoc: api.Left, Names: list("P", "Q")}, api.Level{Assoc: api.None, Names: list("M")}, api.Level{Assoc: api.Right, Names: list("R", "N")}),
			Start:  "S",
			Rules: list(rule("S", "E"), api.Rule{Left: "E", Right: list("E", "P", "E"), Action: " $1 + $3 "}, api.Rule{Left: "E", Right: list("M", "E"), Prec: "M"},
				api.Rule{Left: "E", Right: list("N"), Prec: "R", Action: "{}"}, api.Rule{Left: "E", Prec: "Q", Action: "1"}, api.Rule{Left: "E", Action: "2"},
				api.Rule{Left: "E", Prec: "P"}, api.Rule{Left: "E"}),
		})
}

// P6.1: the word % at once, twice, and missing.
func TestPercent(t *testing.T) {
	reads(t, "%%E:;", ended(api.Grammar{}))
	wrongAt(t, api.ErrWord, "%% ^%% E : ;")
	wrongAt(t, api.ErrWord, "%% E : ; ^%%")
	wrongAt(t, api.ErrWord, "%% E ^%% : ;")
	wrongAt(t, api.ErrWord, "%% E : ^%% ;")
	wrongAt(t, api.ErrWord, "^")
	wrongAt(t, api.ErrWord, " # nothing\n^")
	wrongAt(t, api.ErrWord, "^E : ;")
	wrongAt(t, api.ErrWord, "%start E ^")
	wrongAt(t, api.ErrWord, "%start E ^E : ;")
	wrongAt(t, api.ErrWord, "%start E ^: ; %%")
}

// P6.1: what a declaration begins with, ahead of all of them, and behind each one that is whole.
func TestWhatDeclarationsBeginWith(t *testing.T) {
	words := []string{"%token", "%skip", "%left", "%right", "%nonassoc", "%start", "%%"}
	for _, d := range []string{"", `%token N "n"`, "%token N [n]+", `%skip "n"`, "%skip [n]+"} {
		onlyThese(t, d, words...)
	}
	onlyThese(t, "%token N [n]", append(words, "+")...)
	onlyThese(t, "%skip [n]", append(words, "+")...)
	for _, d := range []string{"%left A", "%right A B", "%nonassoc A"} {
		onlyThese(t, d, append(words, "E")...)
	}
	wrongEach(t, api.ErrWord, "%start S", []string{"E", "%prec", `"E"`, "[E]", "+", ":", "|", ";", "{E}", ""})
}

// P6.1: no rule at all; what rules begin with.
func TestWhatRulesBeginWith(t *testing.T) {
	wrongAt(t, api.ErrWord, "%%^")
	wrongAt(t, api.ErrWord, "%token N \"n\" %% # none \n ^")
	onlyThese(t, "%%", "E")
	onlyThese(t, "%% a : ;", "E", "")
	onlyThese(t, "%% a : b {c} ;", "E", "")
}

// P6.1: patterns of a text and of a class, with a many behind it and without.
func TestPatterns(t *testing.T) {
	for _, x := range []struct {
		s    string
		want api.Pat
	}{
		{`"x"`, text("x")}, {`"x y\n"`, text("x y\n")}, {`[x]`, set("x", false)}, {`[x]+`, set("x", true)}, {"[cb] \n +", set("bc", true)},
	} {
		reads(t, "%token N "+x.s+ends, ended(api.Grammar{Tokens: list(api.Token{Name: "N", Pat: x.want})}))
		reads(t, "%skip "+x.s+ends, ended(api.Grammar{Skips: list(x.want)}))
		reads(t, "%skip "+x.s+"%token token "+x.s+"%skip [y]"+ends, ended(api.Grammar{
			Tokens: list(api.Token{Name: "token", Pat: x.want}), Skips: list(x.want, set("y", false)),
		}))
	}
	for _, d := range []string{"%token N", "%skip"} {
		onlyThese(t, d, `"E"`, "[E]")
		wrongAt(t, api.ErrWord, d+` "x"^+`+ends)
		wrongAt(t, api.ErrWord, d+` "x"^"y"`+ends)
		wrongAt(t, api.ErrWord, d+` "x"^[y]`+ends)
		wrongAt(t, api.ErrWord, d+` [x]^"y"`+ends)
		wrongAt(t, api.ErrWord, d+` [x]^[y]`+ends)
		wrongAt(t, api.ErrWord, d+` [x]+^+`+ends)
		wrongAt(t, api.ErrWord, d+` [x]+^[y]`+ends)
	}
}

// tokens are so many declarations of tokens, from a number on.
func tokens(from, n int) string {
	s := ""
	for i := range n {
		s += "%token N" + strconv.Itoa(from+i) + " \"n\"\n"
	}
	return s
}

// P6.1: a token's name, and how many there may be.
func TestTokens(t *testing.T) {
	onlyThese(t, "%token", "E")
	wrongAt(t, api.ErrTwice, "%token N [x] %token ^N [y]"+ends)
	wrongAt(t, api.ErrTwice, "%token A \"a\" %token N [x]+ %token B [b] %skip [ ] %token ^N")
	wrongAt(t, api.ErrTwice, "%token A \"a\" %token N [x] %token ^A :")
	reads(t, "%token N [x] %token n [x] %token NN [x]"+ends, ended(api.Grammar{Tokens: list(
		api.Token{Name: "N", Pat: set("x", false)}, api.Token{Name: "n", Pat: set("x", false)}, api.Token{Name: "NN", Pat: set("x", false)})}))
	var all []api.Token
	for i := range api.MaxTokens {
		all = append(all, api.Token{Name: "N" + strconv.Itoa(i), Pat: text("n")})
	}
	most := tokens(0, api.MaxTokens)
	reads(t, most+ends, ended(api.Grammar{Tokens: all}))
	reads(t, most+"%start E %skip [ ] %left N0"+ends, ended(api.Grammar{Tokens: all, Skips: list(set(" ", false)), Levels: list(api.Level{Assoc: api.Left, Names: list("N0")})}))
	wrongAt(t, api.ErrFull, most+"%token ^M \"m\""+ends)
	wrongAt(t, api.ErrFull, most+"%token ^M")
	wrongAt(t, api.ErrFull, most+"%token ^M :")
	wrongAt(t, api.ErrTwice, most+"%token ^N0 \"m\"")
	wrongAt(t, api.ErrTwice, most+"%token ^N19")
	wrongAt(t, api.ErrWord, most+"%token ^\"m\"")
	wrongAt(t, api.ErrWord, most+"%token ^")
}

// P6.1: how many skips there may be, which is asked at the word.
func TestSkips(t *testing.T) {
	most := strings.Repeat("%skip \" \"\n", api.MaxSkips)
	want := ended(api.Grammar{Skips: list(text(" "), text(" "), text(" "), text(" "))})
	reads(t, most+ends, want)
	want.Tokens = list(api.Token{Name: "N", Pat: set("n", true)})
	reads(t, most+"%token N [n]+"+ends, want)
	wrongAt(t, api.ErrFull, most+"^%skip \" \""+ends)
	wrongAt(t, api.ErrFull, most+"%token N [n] ^%skip x")
	wrongAt(t, api.ErrFull, most+"^%skip")
	reads(t, "%skip [a]"+ends, ended(api.Grammar{Skips: list(set("a", false))}))
}

// P6.1: levels of one name and of many, of none, and of names that a level has.
func TestLevels(t *testing.T) {
	for assoc, w := range map[int]string{api.Left: "%left ", api.Right: "%right ", api.None: "%nonassoc "} {
		reads(t, w+"A"+ends, ended(api.Grammar{Levels: list(api.Level{Assoc: assoc, Names: list("A")})}))
		reads(t, w+"B A\n#\nC left"+ends, ended(api.Grammar{Levels: list(api.Level{Assoc: assoc, Names: list("B", "A", "C", "left")})}))
		reads(t, w+"B %left A "+w+"C"+ends, ended(api.Grammar{Levels: list(
			api.Level{Assoc: assoc, Names: list("B")}, api.Level{Assoc: api.Left, Names: list("A")}, api.Level{Assoc: assoc, Names: list("C")})}))
		onlyThese(t, w, "E")
		wrongAt(t, api.ErrTwice, w+"A ^A")
		wrongAt(t, api.ErrTwice, w+"A B C D ^C A"+ends)
		wrongAt(t, api.ErrTwice, w+"A %left B C "+w+"D ^B :")
		wrongAt(t, api.ErrTwice, "%right A B %token C [c] "+w+"^B")
		wrongAt(t, api.ErrTwice, "%nonassoc A B %token C [c] "+w+"C ^A C")
	}
	// A name of a level may be a token's, too, and a rule's.
	reads(t, "%token E [e] %left E"+ends, ended(api.Grammar{Tokens: list(api.Token{Name: "E", Pat: set("e", false)}), Levels: list(api.Level{Assoc: api.Left, Names: list("E")})}))
	reads(t, "%left E %token E [e]"+ends, ended(api.Grammar{Tokens: list(api.Token{Name: "E", Pat: set("e", false)}), Levels: list(api.Level{Assoc: api.Left, Names: list("E")})}))
}

// P6.1: how many levels there may be, which is asked at the word; of names in one there may be any number.
func TestManyLevels(t *testing.T) {
	s := ""
	var all []api.Level
	for i := range api.MaxLevels {
		name := "L" + strconv.Itoa(i)
		s += []string{"%nonassoc ", "%left ", "%right "}[i%3] + name + "\n"
		all = append(all, api.Level{Assoc: []int{api.None, api.Left, api.Right}[i%3], Names: list(name)})
	}
	reads(t, s+ends, ended(api.Grammar{Levels: all}))
	reads(t, s+"%start E"+ends, ended(api.Grammar{Levels: all}))
	for _, w := range []string{"%left", "%right", "%nonassoc"} {
		wrongAt(t, api.ErrFull, s+"^"+w+" M"+ends)
		wrongAt(t, api.ErrFull, s+"^"+w+" L0")
		wrongAt(t, api.ErrFull, s+"%start E ^"+w+" :")
		wrongAt(t, api.ErrFull, s+"^"+w)
	}
	wrongAt(t, api.ErrTwice, strings.TrimSpace(s)+" ^L0")

	var many []string
	for i := range 700 {
		many = append(many, "n"+strconv.Itoa(i))
	}
	names := strings.Join(many, " ")
	reads(t, "%left "+names+ends, ended(api.Grammar{Levels: list(api.Level{Assoc: api.Left, Names: many})}))
	wrongAt(t, api.ErrTwice, "%left "+names+" ^n0")
	wrongAt(t, api.ErrTwice, "%left "+names+" %right ^n699")
}

// P6.1: start once and twice; where it stands; Start without one.
func TestStart(t *testing.T) {
	for _, s := range []string{"%start B %% A : ; B : ;", "%start B %token N [n] %% A : ; B : ;", "%token N [n] %start B %% A : ; B : ;"} {
		if g, d := reader.Read(s); g.Start != "B" || d != (api.Diag{}) {
			t.Errorf("%q starts with %q, %v", s, g.Start, d)
		}
	}
	reads(t, "%start start %% A : ;", api.Grammar{Start: "start", Rules: list(rule("A", ""))})
	reads(t, "%% B : A ; A : B ; B : ;", api.Grammar{Start: "B", Rules: list(rule("B", "A"), rule("A", "B"), rule("B", ""))})
	wrongAt(t, api.ErrTwice, "%start A ^%start B %% A : ;")
	wrongAt(t, api.ErrTwice, "%start A %skip [ ] ^%start A")
	wrongAt(t, api.ErrTwice, "%start A ^%start")
	wrongAt(t, api.ErrTwice, "%start A ^%start %%")
	onlyThese(t, "%start", "E")
	wrongAt(t, api.ErrWord, "%start A ^B %%")
}

// P6.1: how a rule goes on.
func TestRulesEnd(t *testing.T) {
	reads(t, "%%a:|;b:c d|;", api.Grammar{Start: "a", Rules: list(rule("a", ""), rule("a", ""), rule("b", "c d"), rule("b", ""))})
	onlyThese(t, "%% a", ":")
	for _, ahead := range []string{"", "b", "b b |", "b {1} |", "| |", "%prec c |"} {
		onlyThese(t, "%% a : "+ahead, "E", "%prec", "{E}", "|", ";")
		onlyThese(t, "%% a : "+ahead+" %prec", "E")
		onlyThese(t, "%% a : "+ahead+" %prec b", "{E}", "|", ";")
		onlyThese(t, "%% a : "+ahead+" {1}", "|", ";")
		onlyThese(t, "%% a : "+ahead+" %prec b {}", "|", ";")
	}
}

// P6.1: alternatives with and without prec, with and without an action.
func TestAlternatives(t *testing.T) {
	for _, x := range []struct {
		s    string
		want api.Rule
	}{
		{"", api.Rule{}}, {"b", api.Rule{Right: list("b")}}, {"b c b", api.Rule{Right: list("b", "c", "b")}},
		{"%prec p", api.Rule{Prec: "p"}}, {"{1}", api.Rule{Action: "1"}}, {"{}", api.Rule{}}, {"%prec p {1}", api.Rule{Prec: "p", Action: "1"}},
		{"b %prec p", api.Rule{Right: list("b"), Prec: "p"}}, {"b { 1{2}\n}", api.Rule{Right: list("b"), Action: " 1{2}\n"}},
		{"b c %prec p {$1}", api.Rule{Right: list("b", "c"), Prec: "p", Action: "$1"}}, {"a prec %prec a", api.Rule{Right: list("a", "prec"), Prec: "a"}},
	} {
		x.want.Left = "a"
		reads(t, "%% a : "+x.s+";", api.Grammar{Start: "a", Rules: list(x.want)})
		reads(t, "%% a : q %prec q {q} |"+x.s+"| ;", api.Grammar{Start: "a", Rules: list(api.Rule{Left: "a", Right: list("q"), Prec: "q", Action: "q"}, x.want, rule("a", ""))})
	}
}

// P6.1: how many names an alternative may have.
func TestLongAlternatives(t *testing.T) {
	most := strings.Repeat(" b", api.MaxRight)
	reads(t, "%% a :"+most+";", api.Grammar{Start: "a", Rules: list(rule("a", most))})
	reads(t, "%% a :"+most+" %prec b {1};", api.Grammar{Start: "a", Rules: list(api.Rule{Left: "a", Right: strings.Fields(most), Prec: "b", Action: "1"})})
	reads(t, "%% a :"+most+"|"+most+"; b :"+most+";", api.Grammar{Start: "a", Rules: list(rule("a", most), rule("a", most), rule("b", most))})
	wrongAt(t, api.ErrFull, "%% a :"+most+" ^b;")
	wrongAt(t, api.ErrFull, "%% a :"+most+" ^b b b")
	wrongAt(t, api.ErrFull, "%% a :"+most+"|"+most+" ^b %prec")
	wrongAt(t, api.ErrWord, "%% a :"+most+" ^:")
	wrongAt(t, api.ErrWord, "%% a :"+most+" %prec b ^b")
}

// P6.1: how many rules there may be: asked at what stands where an alternative would begin, ahead of whether that may stand there.
func TestManyRules(t *testing.T) {
	alternatives := "%% a : " + strings.Repeat("| ", api.MaxRules-1)
	apart := "%% " + strings.Repeat("a : b ; ", api.MaxRules-1)
	mixed := "%% " + strings.Repeat("a : b {1} | | %prec c ;\n", (api.MaxRules-1)/3)
	for _, s := range []string{alternatives + "b", apart + "a : b", mixed + "a : b"} {
		g, d := reader.Read(s + ";")
		if d != (api.Diag{}) || len(g.Rules) != api.MaxRules || !slices.Equal(g.Rules[api.MaxRules-1].Right, list("b")) {
			t.Errorf("Read(%q) = %v, %v", s, g, d)
		}
		wrongEach(t, api.ErrFull, s+" |", someMarks)
		wrongEach(t, api.ErrFull, s+" ; c :", someMarks)
		// Ahead of the alternative other marks are wrong as they are anywhere.
		wrongAt(t, api.ErrWord, s+"^: b")
		wrongAt(t, api.ErrWord, s+"; ^|")
		wrongAt(t, api.ErrWord, s+"; ^: b")
		wrongAt(t, api.ErrWord, s+"; c ^b")
		wrongAt(t, api.ErrWord, s+"; c ^")
		wrongAt(t, api.ErrWord, s+" %prec ^|")
	}
}

// P6.1: where several things are wrong, the one that comes first.
func TestTheFirstThingIsTold(t *testing.T) {
	wrongAt(t, api.ErrTwice, "%left A ^A %left %% :")
	wrongAt(t, api.ErrWord, "%left ^%left A A")
	wrongAt(t, api.ErrTwice, "%token A [a] %token ^A b %start a %start b")
	wrongAt(t, api.ErrWord, "%token A ^b %token A [a]")
	wrongAt(t, api.ErrTwice, "%start A ^%start : %skip x")
	wrongAt(t, api.ErrWord, "%skip ^x %start A %start A")
	wrongAt(t, api.ErrFull, "%% a :"+strings.Repeat(" b", api.MaxRight)+" ^b ; :")
	wrongAt(t, api.ErrWord, "%% a : b ^: "+strings.Repeat(" b", api.MaxRight+1))
	// A name with which an alternative too many begins is no name too many.
	wrongAt(t, api.ErrFull, "%% a :"+strings.Repeat("|", api.MaxRules-1)+"|^"+strings.Repeat(" b", api.MaxRight+1)[1:])
}

// P6.2: what is wrong with marks themselves is told ahead of what is wrong with a grammar.
func TestReadTellsWhatLexTells(t *testing.T) {
	for _, s := range []string{"=", "E : \"", "%% E : ; F [", "%left A A ; {", "%% E : {{{{{", strings.Repeat("a", 33), `""`, "%% E : ;%%%", strings.Repeat(" ", api.MaxSource+1)} {
		_, d := lexer.Lex(s)
		if d.Code == api.OK {
			t.Fatalf("Lex finds nothing wrong with %q", s)
		}
		isWrong(t, s, d.Code, d.At.Line, d.At.Col)
	}
	wrongAt(t, api.ErrOpen, "E : E ^\"")
	long := "%%E:;" + strings.Repeat(" ", api.MaxSource-5)
	reads(t, long, ended(api.Grammar{}))
	isWrong(t, long+" ", api.ErrLong, 1, 1)
}

// mark is a mark of a kind at a place that no other one has.
func mark(kind int, text string, i int) api.Mark {
	return api.Mark{Kind: kind, Text: text, At: pos(-i, math.MinInt+i)}
}

// placed are marks, with an end behind them, each at a place of its own.
func placed(l ...api.Mark) []api.Mark {
	l = append(slices.Clone(l), api.Mark{Kind: api.MarkEnd, Text: "token"})
	for i := range l {
		l[i].At = pos(-i, math.MinInt+i)
	}
	return l
}

// marks fails the test if marks are not just that grammar.
func marks(t *testing.T, l []api.Mark, want api.Grammar) {
	t.Helper()
	g, d := reader.Marks(l)
	if d != (api.Diag{}) || !same(g, want) {
		t.Errorf("Marks(%v) = %v, %d, want %v", l, g, d, want)
	}
}

// marksWrong fails the test if not just that is wrong with marks, at that one's place.
func marksWrong(t *testing.T, l []api.Mark, e api.Errno, i int) {
	t.Helper()
	g, d := reader.Marks(l)
	if want := (api.Diag{Code: e, At: l[i].At}); d != want || !same(g, api.Grammar{}) {
		t.Errorf("Marks(%v) = %v, %d, want %d", l, g, d, want)
	}
}

// P6.1: marks that no text has: of any texts, at any places.
func TestMarksOfNoText(t *testing.T) {
	w := func(s string) api.Mark { return api.Mark{Kind: api.MarkWord, Text: s} }
	n := func(s string) api.Mark { return api.Mark{Kind: api.MarkName, Text: s} }
	k := func(kind int) api.Mark { return api.Mark{Kind: kind, Text: "%"} }
	long := strings.Repeat("\xff\n", 5000)
	colon, bar, semi, many := k(api.MarkColon), k(api.MarkBar), k(api.MarkSemi), k(api.MarkMany)
	marks(t, placed(
		w("token"), n(""), api.Mark{Kind: api.MarkText}, w("token"), n(long), api.Mark{Kind: api.MarkClass, Text: "ba"}, many,
		w("skip"), api.Mark{Kind: api.MarkClass}, w("skip"), api.Mark{Kind: api.MarkText, Text: long},
		w("left"), n("$ %"), n(""), w("%"),
		n(long), colon, n(""), n("%prec"), w("prec"), n(long), api.Mark{Kind: api.MarkAction, Text: "}{" + long}, bar, w("prec"), n(""), semi),
		api.Grammar{
			Tokens: list(api.Token{}, api.Token{Name: long, Pat: set("ba", true)}),
			Skips:  list(api.Pat{}, text(long)),
			Levels: list(api.Level{Assoc: api.Left, Names: list("$ %", "")}),
			Start:  long,
			Rules:  list(api.Rule{Left: long, Right: list("", "%prec"), Prec: long, Action: "}{" + long}, api.Rule{Left: long}),
		})
	// A start of no bytes is one, too.
	marks(t, placed(w("start"), n(""), w("%"), n("a"), colon, semi), api.Grammar{Rules: list(rule("a", ""))})
	marksWrong(t, placed(w("start"), n(""), w("start"), n("")), api.ErrTwice, 2)
	marksWrong(t, placed(w("token"), n(""), k(api.MarkText), w("token"), n("")), api.ErrTwice, 4)
	marksWrong(t, placed(w("left"), n(""), n("")), api.ErrTwice, 2)
	// Words that are none; marks of other kinds that have words as texts.
	for _, s := range []string{"", "%%", "%token", "Token", "toke", "token ", "left\n", "prec", long} {
		marksWrong(t, placed(w(s), n("a")), api.ErrWord, 0)
	}
	for kind := api.MarkName; kind <= api.MarkAction; kind++ {
		for _, s := range lexer.Words() {
			if kind != api.MarkWord {
				marksWrong(t, placed(api.Mark{Kind: kind, Text: s}, n("a")), api.ErrWord, 0)
			}
		}
	}
	for _, kind := range []int{api.MarkText, api.MarkClass, api.MarkMany, api.MarkColon} {
		marksWrong(t, placed(w("%"), n("a"), colon, api.Mark{Kind: kind, Text: "prec"}, n("b")), api.ErrWord, 3)
	}
}

// P6.1: a list of very many marks is read in no time.
func TestVeryManyMarks(t *testing.T) {
	l := []api.Mark{{Kind: api.MarkWord, Text: "left"}}
	for i := range 300000 {
		l = append(l, mark(api.MarkName, strconv.Itoa(i), i))
	}
	for _, x := range l[1:4] {
		marksWrong(t, append(l, x, api.Mark{}), api.ErrTwice, len(l))
	}
	rest := placed(api.Mark{Kind: api.MarkWord, Text: "%"}, api.Mark{Kind: api.MarkName, Text: "E"}, api.Mark{Kind: api.MarkColon}, api.Mark{Kind: api.MarkSemi})
	g, d := reader.Marks(append(slices.Clone(l), rest...))
	if d.Code != api.OK || len(g.Levels) != 1 || len(g.Levels[0].Names) != len(l)-1 {
		t.Errorf("a level of %d names: %v", len(l)-1, d)
	}
}

// P6.1, R1: lists without an end, with an end in their midst, of other kinds, and the empty one.
func TestOtherListsEnd(t *testing.T) {
	reader.Marks(nil)
	reader.Marks([]api.Mark{})
	l, _ := lexer.Lex(`%token N [0-9]+ %token P "+" %skip [ ] %left P Q %nonassoc M %start E %% E : E P E %prec M {$1} | N | ; X : ;`)
	for n := range l {
		reader.Marks(l[:n])
		reader.Marks(l[n:])
		for _, kind := range []int{api.MarkEnd, api.MarkAction + 1, -1, 100, math.MinInt, math.MaxInt} {
			reader.Marks(slices.Insert(slices.Clone(l), n, api.Mark{Kind: kind, Text: "%"}))
			reader.Marks(slices.Insert(slices.Clone(l[:n]), n/2, api.Mark{Kind: kind, Text: "token"}))
			reader.Marks(append(slices.Clone(l[:n]), api.Mark{Kind: kind}, api.Mark{Kind: kind}))
		}
	}
	for _, m := range l {
		reader.Marks([]api.Mark{m})
		reader.Marks([]api.Mark{m, m})
		reader.Marks([]api.Mark{{}, m})
		reader.Marks([]api.Mark{{}, m, {}})
	}
}

// R5, R6: what is handed in is not changed; who changes an answer changes no other one, and no list shares with another one.
func TestAnswersAreTheirOwn(t *testing.T) {
	s := `%token N [0-9]+ %token P "+" %skip [ ] %left P Q %nonassoc M R %% E : E P E %prec M {$1} | N | N N ; X : ;`
	l, _ := lexer.Lex(s)
	kept := slices.Clone(l)
	want, _ := reader.Read(s)
	want = plain(want)
	g, d := reader.Marks(l)
	if d != (api.Diag{}) || !same(g, want) || !slices.Equal(l, kept) {
		t.Fatal(g, d, l)
	}
	for i := range g.Rules {
		_ = append(g.Rules[i].Right, "x", "x", "x", "x")
	}
	for i := range g.Levels {
		_ = append(g.Levels[i].Names, "x", "x", "x", "x")
	}
	if !same(g, want) {
		t.Error("lists share with others:", g)
	}
	clear(g.Tokens)
	clear(g.Skips)
	for i := range g.Levels {
		clear(g.Levels[i].Names)
	}
	for i := range g.Rules {
		clear(g.Rules[i].Right)
	}
	if again, d := reader.Marks(l); d != (api.Diag{}) || !same(again, want) {
		t.Error(again, d)
	}
	if again, d := reader.Read(s); d != (api.Diag{}) || !same(again, want) {
		t.Error(again, d)
	}
}
