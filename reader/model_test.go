package reader_test

import (
	"math/rand"
	"slices"
	"strings"
	"testing"

	"tronage/api"
	"tronage/lexer"
	"tronage/reader"
)

// The model is an automaton, as a grammar's text is regular. Each row is a place between two marks: what it is called, and to which place each mark goes, told by a letter: t, s, p, S are the words token, skip, prec, start, l those of levels, % itself; n a name, T a text, C a class, + : | ; what they are, a an action, $ the end. Where a mark goes nowhere it may not stand.
var places = map[string]string{
	"declarations": "t token, s skip, l level, S start, % rules",
	"token":        "n named",
	"named":        "T declarations, C class",
	"skip":         "T declarations, C class",
	"class":        "+ declarations, t token, s skip, l level, S start, % rules",
	"level":        "n names",
	"names":        "n names, t token, s skip, l level, S start, % rules",
	"start":        "n declarations",
	"rules":        "n left",
	"left":         ": begins",
	"begins":       "n right, p prec, a action, | begins, ; ends",
	"right":        "n right, p prec, a action, | begins, ; ends",
	"prec":         "n precious",
	"precious":     "a action, | begins, ; ends",
	"action":       "| begins, ; ends",
	"ends":         "n left, $ whole",
}

// step is where the mark of a letter goes from a place.
type step struct{ place, letter string }

// goes are all steps of places.
var goes = func() map[step]string {
	m := map[step]string{}
	for place, row := range places {
		for _, s := range strings.Split(row, ", ") {
			letter, to, _ := strings.Cut(s, " ")
			m[step{place, letter}] = to
		}
	}
	return m
}()

// letter is a mark's.
func letter(m api.Mark) string {
	if m.Kind != api.MarkWord {
		return "$n?TC+:|;a"[m.Kind:][:1]
	}
	return map[string]string{"token": "t", "skip": "s", "left": "l", "right": "l", "nonassoc": "l", "start": "S", "prec": "p", "%": "%"}[m.Text]
}

// model is Marks by the model, of marks with one end behind them.
func model(l []api.Mark) (api.Grammar, api.Diag) {
	var g api.Grammar
	place, starts := "declarations", 0
	for i, m := range l {
		wrong := tooMuch(g, place, m, starts)
		s := step{place, letter(m)}
		if wrong == api.OK && goes[s] == "" {
			wrong = api.ErrWord
		}
		if wrong != api.OK {
			return api.Grammar{}, api.Diag{Code: wrong, At: m.At}
		}
		if s.letter == "S" {
			starts++
		}
		grow(&g, s, m, l[max(i-2, 0):i])
		place = goes[s]
	}
	if starts == 0 {
		g.Start = g.Rules[0].Left
	}
	return g, api.Diag{}
}

// tooMuch is what is wrong with a mark that may stand at a place (or with any, where an alternative begins).
func tooMuch(g api.Grammar, place string, m api.Mark, starts int) api.Errno {
	switch s := (step{place, letter(m)}); {
	case place == "begins" && len(g.Rules) == 40:
		return api.ErrFull
	case goes[s] == "":
		return api.OK
	case s == step{"token", "n"}:
		for _, x := range g.Tokens {
			if x.Name == m.Text {
				return api.ErrTwice
			}
		}
		return full(len(g.Tokens), 20)
	case s.letter == "s":
		return full(len(g.Skips), 4)
	case s.letter == "l":
		return full(len(g.Levels), 10)
	case place == "level" || s == step{"names", "n"}:
		for _, x := range g.Levels {
			if slices.Contains(x.Names, m.Text) {
				return api.ErrTwice
			}
		}
	case s.letter == "S" && starts > 0:
		return api.ErrTwice
	case s == step{"right", "n"}:
		return full(len(g.Rules[len(g.Rules)-1].Right), 8)
	}
	return api.OK
}

// full is ErrFull, if there are as many as may be.
func full(n, most int) api.Errno {
	if n == most {
		return api.ErrFull
	}
	return api.OK
}

// grow makes of a grammar what a step with a mark makes of it; the marks ahead of that one are those.
func grow(g *api.Grammar, s step, m api.Mark, ahead []api.Mark) {
	token, skip := len(g.Tokens)-1, len(g.Skips)-1
	level, rule := len(g.Levels)-1, len(g.Rules)-1
	switch s.place {
	case "token":
		g.Tokens = append(g.Tokens, api.Token{Name: m.Text})
	case "named":
		g.Tokens[token].Pat = shape(m)
	case "skip":
		g.Skips = append(g.Skips, shape(m))
	case "class":
		if s.letter == "+" && ahead[0].Kind == api.MarkName {
			g.Tokens[token].Pat.Many = true
		} else if s.letter == "+" {
			g.Skips[skip].Many = true
		}
	case "level", "names":
		if s.letter == "n" {
			g.Levels[level].Names = append(g.Levels[level].Names, m.Text)
		}
	case "start":
		g.Start = m.Text
	case "begins":
		left := ahead[0].Text // ahead of the colon
		if ahead[1].Kind == api.MarkBar {
			left = g.Rules[rule].Left
		}
		g.Rules = append(g.Rules, api.Rule{Left: left})
		rule++
	case "prec":
		g.Rules[rule].Prec = m.Text
	}
	switch {
	case s.letter == "l":
		g.Levels = append(g.Levels, api.Level{Assoc: map[string]int{"left": 1, "right": 2, "nonassoc": 3}[m.Text]})
	case s.letter == "a":
		g.Rules[rule].Action = m.Text
	case s.letter == "n" && (s.place == "begins" || s.place == "right"):
		g.Rules[rule].Right = append(g.Rules[rule].Right, m.Text)
	}
}

// shape is the pattern that a mark is.
func shape(m api.Mark) api.Pat {
	if m.Kind == api.MarkText {
		return api.Pat{Text: m.Text}
	}
	return api.Pat{Set: m.Text}
}

// agrees fails the test if Marks and the model tell of marks what is not the same. It answers what is wrong.
func agrees(t *testing.T, l []api.Mark) api.Diag {
	t.Helper()
	g, d := reader.Marks(l)
	if want, wrong := model(l); d != wrong || !same(g, want) {
		t.Fatalf("Marks(%v) = %v, %d, want %v, %d", l, g, d, want, wrong)
	}
	return d
}

// some are marks of all kinds, and of all words, and two names.
var some = func() []api.Mark {
	l := []api.Mark{{Kind: api.MarkWord, Text: "?"}, {Kind: api.MarkName, Text: "n"}, {Kind: api.MarkName, Text: "token"}}
	for _, w := range lexer.Words() {
		l = append(l, api.Mark{Kind: api.MarkWord, Text: w})
	}
	for kind := api.MarkText; kind <= api.MarkAction; kind++ {
		l = append(l, api.Mark{Kind: kind, Text: "n"})
	}
	return l
}()

// marksOf are a text's marks, without the end.
func marksOf(t *testing.T, s string) []api.Mark {
	t.Helper()
	l, d := lexer.Lex(s)
	if d.Code != api.OK {
		t.Fatal(s, d)
	}
	return l[:len(l)-1]
}

// allBehind holds all short lists of marks that begin as one does against the model: so many marks more, as long as there is nothing wrong ahead of their end, and one behind what is wrong.
func allBehind(t *testing.T, l []api.Mark, most int) {
	t.Helper()
	marks := placed(l...)
	d := agrees(t, marks)
	if d.Code != api.OK && d.At != marks[len(l)].At {
		most = min(most, 1)
	}
	if most == 0 {
		return
	}
	for _, m := range some {
		allBehind(t, append(slices.Clone(l), m), most-1)
	}
}

// P6.1: all short lists of marks, at once and within a grammar.
func TestAllShortLists(t *testing.T) {
	for _, x := range []struct {
		ahead string
		most  int
	}{
		{"", 5}, {"%token N [n]", 4}, {"%left A %start B", 4}, {"%%", 5}, {"%% n :", 4}, {"%% n : n %prec n {n} |", 4},
		{tokens(0, 19), 4}, {tokens(0, 20), 3}, {"%skip [a] %skip [a] %skip [a]", 4}, {"%skip [a] %skip [a] %skip [a] %skip [a]", 3},
		{"%left a %left b %left c %left d %left e %left f %right g %right h %right i", 4},
		{"%left a %left b %left c %left d %left e %left f %right g %right h %right i %right j", 3},
		{"%% n : a a a a a a a", 4}, {"%% n : a a a a a a a a", 3},
		{"%% " + strings.Repeat("n : ; ", 38), 4}, {"%% n :" + strings.Repeat("|", 38), 4}, {"%% n :" + strings.Repeat("|", 39), 3},
		{"%% " + strings.Repeat("n : a {1} ; ", 40), 4}, {"%% n :" + strings.Repeat("|", 40), 3},
	} {
		allBehind(t, marksOf(t, x.ahead), x.most)
	}
}

// sentence is a text that is a grammar, most times, made by chance.
func sentence(r *rand.Rand) string {
	var b strings.Builder
	say := func(l ...string) { b.WriteString(l[r.Intn(len(l))] + " ") }
	names := []string{"a", "b", "c", "d", "e", "f", "g", "h", "i", "j", "k", "l", "left", "E", "N", "P", "_", "a1", "a2", "a3", "a4", "a5", "a6", "a7"}
	pattern := func() { say(`"+"`, "[0-9]", "[0-9]+", "[ \\n] +", `"\\\""`) }
	for range r.Intn(14) {
		switch r.Intn(8) {
		case 0:
			say("%start")
			say(names...)
		case 1:
			say("%skip")
			pattern()
		case 2, 3:
			say("%left", "%right", "%nonassoc")
			for range 1 + r.Intn(3)*r.Intn(2) {
				say(names...)
			}
		default:
			say("%token")
			say(names...)
			pattern()
		}
	}
	say("%%")
	for range 1 + r.Intn(9) {
		say(names...)
		say(":\n")
		for range r.Intn(8) {
			for range r.Intn(5) + r.Intn(5)*r.Intn(2) {
				say(names...)
			}
			say("", "", "%prec a", "%prec b {1}", "{$1 + $2}", "{}")
			say("|", "|", "|", "; a :")
		}
		say(";")
	}
	return b.String()
}

// P6.2, P6.3: grammars, and texts that nearly are ones: as the model says, and what is wrong is so at a place inside.
func TestTextsByChance(t *testing.T) {
	r := rand.New(rand.NewSource(6))
	told := map[api.Errno]int{}
	for range 15000 {
		words := strings.SplitAfter(sentence(r), " ")
		for range r.Intn(3) {
			i := r.Intn(len(words))
			switch r.Intn(4) {
			case 0:
				words = slices.Delete(words, i, i+1)
			case 1:
				words = slices.Insert(words, i, words[r.Intn(len(words))])
			case 2:
				words[i] = words[r.Intn(len(words))]
			case 3:
				words[i] = someMarks[r.Intn(len(someMarks))] + " "
			}
		}
		s := strings.Join(words, "")
		g, d := reader.Read(s)
		l, want := lexer.Lex(s)
		var grammar api.Grammar
		if want.Code == api.OK {
			grammar, want = model(l)
		}
		if d != want || !same(g, grammar) {
			t.Fatalf("Read(%q) = %v, %d, want %v, %d", s, g, d, grammar, want)
		}
		inside(t, s, d)
		told[d.Code]++
	}
	for _, e := range []api.Errno{api.OK, api.ErrFull, api.ErrWord, api.ErrTwice} {
		if told[e] < 300 {
			t.Errorf("of %d only %d texts: %v", e, told[e], told)
		}
	}
}

// inside fails the test if what is wrong with a text has a place that the text doesn't have, or if it is one of the wrong errors.
func inside(t *testing.T, s string, d api.Diag) {
	t.Helper()
	if d == (api.Diag{}) {
		return
	}
	if !slices.Contains([]api.Errno{api.ErrFull, api.ErrByte, api.ErrOpen, api.ErrLong, api.ErrDeep, api.ErrWord, api.ErrTwice}, d.Code) {
		t.Fatalf("Read(%q): %d", s, d)
	}
	for i := range len(s) + 1 {
		if lexer.At(s, i) == d.At {
			return
		}
	}
	t.Fatalf("Read(%q): %d is no place of it", s, d)
}

// P6.3: any texts: a grammar, of a rule at least, or a thing that is wrong at a place inside.
func TestAnyTexts(t *testing.T) {
	r := rand.New(rand.NewSource(7))
	const bytes = "aE%\"[]{}+:|;# \n\\-$\xff"
	for range 20000 {
		s := ""
		for range r.Intn(40) {
			if r.Intn(3) == 0 {
				s += bytes[r.Intn(len(bytes)):][:1]
			} else {
				s += someMarks[r.Intn(len(someMarks))] + " \n"[r.Intn(2):][:1]
			}
		}
		for _, s := range []string{s, "%%" + s, s + "%% E : ;", "%% E : " + s + ";"} {
			g, d := reader.Read(s)
			inside(t, s, d)
			if (d.Code == api.OK) != (len(g.Rules) > 0) || d.Code != api.OK && !same(g, api.Grammar{}) {
				t.Fatalf("Read(%q) = %v, %d", s, g, d)
			}
		}
	}
}
