package scan_test

import (
	"fmt"
	"math"
	"slices"
	"strings"
	"testing"

	"tronage/api"
	"tronage/reader"
	"tronage/scan"
)

// text, one and many are patterns.
func text(s string) api.Pat { return api.Pat{Text: s} }
func one(s string) api.Pat  { return api.Pat{Set: s} }
func many(s string) api.Pat { return api.Pat{Set: s, Many: true} }

// digits and letters are such bytes.
const (
	digits  = "0123456789"
	letters = "abcdefghijklmnopqrstuvwxyz"
)

// every is the text of all bytes.
func every() string {
	var b []byte
	for i := range 256 {
		b = append(b, byte(i))
	}
	return string(b)
}

// tokens is a grammar of tokens that look so, without skips.
func tokens(l ...api.Pat) api.Grammar {
	var g api.Grammar
	for i, p := range l {
		g.Tokens = append(g.Tokens, api.Token{Name: fmt.Sprint("T", i+1), Pat: p})
	}
	return g
}

// with is the grammar with more skips.
func with(g api.Grammar, skips ...api.Pat) api.Grammar {
	g.Skips = slices.Concat(g.Skips, skips)
	return g
}

// read is a grammar of a text's declarations.
func read(t *testing.T, s string) api.Grammar {
	t.Helper()
	g, d := reader.Read(s + " %% S : ;")
	if d.Code != api.OK {
		t.Fatal(s, d)
	}
	return g
}

// chapter is the grammar of the chapter's examples: N is 1, I 2, W 3.
func chapter(t *testing.T) api.Grammar {
	t.Helper()
	return read(t, `%token N [0-9]+ %token I "if" %token W [a-z]+ %skip " "`)
}

// quote is a text for a reader: no more than its first bytes.
func quote(s string) string { return fmt.Sprintf("%q (%d bytes)", s[:min(len(s), 300)], len(s)) }

// show is a grammar's patterns for a reader.
func show(g api.Grammar) string { return quote(fmt.Sprintf("%+v %+v", g.Tokens, g.Skips)) }

// step is what Next is to tell, and how many skips there are to be behind it.
type step struct{ term, from, to, skipped int }

// stands fails the test if a scanner stands anywhere else, or has skipped any other number.
func stands(t *testing.T, c *scan.Scanner, at, skipped int) {
	t.Helper()
	if c.At() != at || c.Skipped() != skipped {
		t.Fatalf("At tells %d, Skipped %d, want %d, %d", c.At(), c.Skipped(), at, skipped)
	}
}

// goes fails the test if the steps are not what Next tells, one behind the other, the last one of them, with the error, again and again, or not what All tells at once; or if the place is not behind each of them.
func goes(t *testing.T, g api.Grammar, s string, e api.Errno, steps ...step) {
	t.Helper()
	c := scan.New(g, s)
	stands(t, c, 0, 0)
	var want []api.Tok
	for i, x := range steps {
		tok, code := api.Tok{Term: x.term, From: x.from, To: x.to}, api.OK
		again := 1
		if i == len(steps)-1 {
			code, again = e, 4
		}
		for k := range again {
			if got, f := c.Next(); got != tok || f != code {
				t.Fatalf("of %s in %s Next %d tells %v, %v, the %d. time, want %v, %v", show(g), quote(s), i, got, f, k+1, tok, code)
			}
			stands(t, c, x.to, x.skipped)
			stands(t, c, x.to, x.skipped)
		}
		want = append(want, tok)
	}
	for range 2 {
		if got, f := scan.All(g, s); f != e || !slices.Equal(got, want) {
			t.Fatalf("of %s in %s All tells %v, %v, want %v, %v", show(g), quote(s), got, f, want, e)
		}
	}
}

// cut fails the test if a text is not cut to these steps, the last one of which is at its end.
func cut(t *testing.T, g api.Grammar, s string, steps ...step) {
	t.Helper()
	goes(t, g, s, api.OK, steps...)
}

// refused fails the test if a text is not cut to these steps, the last one of which comes with an error.
func refused(t *testing.T, g api.Grammar, s string, steps ...step) {
	t.Helper()
	goes(t, g, s, api.ErrToken, steps...)
}

// The chapter's examples.
func TestExamples(t *testing.T) {
	g := chapter(t)
	cut(t, g, "if if2 iff", step{2, 0, 2, 0}, step{2, 3, 5, 1}, step{1, 5, 6, 1}, step{3, 7, 10, 2}, step{0, 10, 10, 2})
	refused(t, g, "a;", step{3, 0, 1, 0}, step{0, 1, 1, 0})
}

// P17.1: the empty text is at its end from the beginning, whatever the grammar has.
func TestEmptyText(t *testing.T) {
	for _, g := range []api.Grammar{
		{}, tokens(), chapter(t), tokens(text("a")), tokens(many(every())), with(tokens(), many(every())), tokens(api.Pat{}), tokens(api.Pat{Many: true}),
		with(tokens(), api.Pat{}), with(tokens(one(" ")), text(" ")), {Tokens: []api.Token{}, Skips: []api.Pat{}},
	} {
		cut(t, g, "", step{})
	}
}

// P17.1: behind the last token, and behind a last skip, comes the end, again and again.
func TestEnd(t *testing.T) {
	g := chapter(t)
	cut(t, g, "7", step{1, 0, 1, 0}, step{0, 1, 1, 0})
	cut(t, g, "7 ", step{1, 0, 1, 0}, step{0, 2, 2, 1})
	cut(t, g, "7   ", step{1, 0, 1, 0}, step{0, 4, 4, 3})
	cut(t, g, "0a", step{1, 0, 1, 0}, step{3, 1, 2, 0}, step{0, 2, 2, 0})

	c := scan.New(g, "a ")
	c.Next()
	for i := range 1000 {
		if x, e := c.Next(); x != (api.Tok{From: 2, To: 2}) || e != api.OK {
			t.Fatal(i, x, e)
		}
		stands(t, c, 2, 1)
	}
}

// P17.1: terminals are counted from 1 on, as the tokens are declared; their names are nothing to it.
func TestTerminals(t *testing.T) {
	g := tokens(one("c"), one("a"), one("b"))
	cut(t, g, "abcba", step{2, 0, 1, 0}, step{3, 1, 2, 0}, step{1, 2, 3, 0}, step{3, 3, 4, 0}, step{2, 4, 5, 0}, step{0, 5, 5, 0})
	for i := range g.Tokens {
		g.Tokens[i].Name = []string{"", "$end", "T1"}[i]
	}
	cut(t, g, "abc", step{2, 0, 1, 0}, step{3, 1, 2, 0}, step{1, 2, 3, 0}, step{0, 3, 3, 0})
	g.Tokens[1].Name = g.Tokens[2].Name
	cut(t, g, "ba", step{3, 0, 1, 0}, step{2, 1, 2, 0}, step{0, 2, 2, 0})

	// What else a grammar has is nothing to it, either.
	g.Levels = []api.Level{{Assoc: api.Left, Names: []string{"T1"}}}
	g.Start, g.Rules = "a", []api.Rule{{Left: "a", Right: []string{"b"}, Action: "1"}}
	cut(t, g, "ba", step{3, 0, 1, 0}, step{2, 1, 2, 0}, step{0, 2, 2, 0})

	var l []api.Pat // more of them than a text can declare
	var steps []step
	for i := range 256 {
		l = append(l, one(every()[255-i:256-i]))
		steps = append(steps, step{256 - i, i, i + 1, 0})
	}
	cut(t, tokens(l...), every(), append(steps, step{0, 256, 256, 0})...)
}

// P17.1: of a token and a skip that match as many the token counts, in whichever order they are declared.
func TestTokenAheadOfSkip(t *testing.T) {
	for _, s := range []string{
		`%token A "ab" %token B [a-z]+ %skip "ab" %skip [a-z]+ %skip "xy"`,
		`%skip "ab" %skip [a-z]+ %skip "xy" %token A "ab" %token B [a-z]+`,
		`%skip "ab" %token A "ab" %skip [a-z]+ %skip "xy" %token B [a-z]+`,
	} {
		g := read(t, s)
		cut(t, g, "ab", step{1, 0, 2, 0}, step{0, 2, 2, 0})
		cut(t, g, "xy", step{2, 0, 2, 0}, step{0, 2, 2, 0})
		cut(t, g, "abxy", step{2, 0, 4, 0}, step{0, 4, 4, 0})
	}
	for _, p := range []api.Pat{text("a"), one("a"), one("ab"), many("a"), many("ab")} {
		for _, q := range []api.Pat{text("a"), one("a"), one("ba"), many("a"), many("ba")} {
			cut(t, with(tokens(p), q), "a", step{1, 0, 1, 0}, step{0, 1, 1, 0})
			cut(t, with(tokens(one("x"), p), one("y"), q), "a", step{2, 0, 1, 0}, step{0, 1, 1, 0})
		}
	}
	g := with(tokens(text("  ")), many(" ")) // just where they match as many
	cut(t, g, "  ", step{1, 0, 2, 0}, step{0, 2, 2, 0})
	cut(t, g, " ", step{0, 1, 1, 1})
	cut(t, g, "   ", step{0, 3, 3, 1})
}

// P17.1: of two tokens that match as many the first one counts, as they are declared.
func TestFirstDeclared(t *testing.T) {
	cut(t, tokens(text("if"), many(letters)), "if", step{1, 0, 2, 0}, step{0, 2, 2, 0})
	cut(t, tokens(many(letters), text("if")), "if", step{1, 0, 2, 0}, step{0, 2, 2, 0})
	g := tokens(one("a"), one("ab"), one("abc"), one("abcd"))
	cut(t, g, "dcba", step{4, 0, 1, 0}, step{3, 1, 2, 0}, step{2, 2, 3, 0}, step{1, 3, 4, 0}, step{0, 4, 4, 0})
	g = tokens(one("dcba"), one("abc"), one("ab"), one("a"))
	cut(t, g, "dcba", step{1, 0, 1, 0}, step{1, 1, 2, 0}, step{1, 2, 3, 0}, step{1, 3, 4, 0}, step{0, 4, 4, 0})
	cut(t, tokens(text("a"), text("ab"), text("ab"), text("ab")), "aba", step{2, 0, 2, 0}, step{1, 2, 3, 0}, step{0, 3, 3, 0})
	cut(t, tokens(one("x"), text("a"), one("a"), many("a")), "a", step{2, 0, 1, 0}, step{0, 1, 1, 0})
	cut(t, tokens(one("x"), many("a"), one("a"), text("a")), "a", step{2, 0, 1, 0}, step{0, 1, 1, 0})
}

// P17.1: what matches most bytes counts, be it declared first, last, or between others.
func TestLongestToken(t *testing.T) {
	for i, l := range [][]api.Pat{
		{text("<"), text("<="), text("<<=")}, {text("<"), text("<<="), text("<=")}, {text("<="), text("<"), text("<<=")},
		{text("<="), text("<<="), text("<")}, {text("<<="), text("<"), text("<=")}, {text("<<="), text("<="), text("<")},
	} {
		place := func(s string) int { return slices.Index(l, text(s)) + 1 }
		less, same, shift := place("<"), place("<="), place("<<=")
		if less*same*shift != 6 {
			t.Fatal(i, less, same, shift)
		}
		cut(t, tokens(l...), "<<<=<=<", step{less, 0, 1, 0}, step{shift, 1, 4, 0}, step{same, 4, 6, 0}, step{less, 6, 7, 0}, step{0, 7, 7, 0})
		cut(t, tokens(l...), "<<", step{less, 0, 1, 0}, step{less, 1, 2, 0}, step{0, 2, 2, 0}) // the text is too short for the third one
	}
	g := chapter(t)
	cut(t, g, "i", step{3, 0, 1, 0}, step{0, 1, 1, 0})
	cut(t, g, "if", step{2, 0, 2, 0}, step{0, 2, 2, 0})
	cut(t, g, "ifi", step{3, 0, 3, 0}, step{0, 3, 3, 0})
	cut(t, g, "fif", step{3, 0, 3, 0}, step{0, 3, 3, 0})
	cut(t, g, "2if3", step{1, 0, 1, 0}, step{2, 1, 3, 0}, step{1, 3, 4, 0}, step{0, 4, 4, 0})

	// It counts even where what comes behind it then is none, and would be one behind a shorter one.
	refused(t, tokens(text("a"), text("ab"), text("bc")), "abc", step{2, 0, 2, 0}, step{0, 2, 2, 0})
	refused(t, tokens(many("a"), text("ab")), "aab", step{1, 0, 2, 0}, step{0, 2, 2, 0})
}

// P17.1: a skip that matches more than any token counts, and a token that matches more than any skip.
func TestLongestOfSkips(t *testing.T) {
	g := with(tokens(text("-"), text("->")), text("--"), text("-->-"))
	cut(t, g, "-", step{1, 0, 1, 0}, step{0, 1, 1, 0})
	cut(t, g, "--", step{0, 2, 2, 1})
	cut(t, g, "---", step{1, 2, 3, 1}, step{0, 3, 3, 1})
	cut(t, g, "->", step{2, 0, 2, 0}, step{0, 2, 2, 0})
	cut(t, g, "-->-->", step{2, 4, 6, 1}, step{0, 6, 6, 1})
	cut(t, g, "----->", step{2, 4, 6, 2}, step{0, 6, 6, 2})
	g = with(tokens(many("a")), text("aa"))
	cut(t, g, "a", step{1, 0, 1, 0}, step{0, 1, 1, 0})
	cut(t, g, "aa", step{1, 0, 2, 0}, step{0, 2, 2, 0})
	cut(t, g, "aaa", step{1, 0, 3, 0}, step{0, 3, 3, 0})
	g = with(tokens(one("a")), many("a"))
	cut(t, g, "a", step{1, 0, 1, 0}, step{0, 1, 1, 0})
	cut(t, g, "aaa", step{0, 3, 3, 1})

	// A longer token than the first skip, and a longer skip than that, and so on.
	g = with(tokens(text("ab"), text("abcd")), text("a"), text("abc"), text("abcde"))
	cut(t, g, "a", step{0, 1, 1, 1})
	cut(t, g, "aab", step{1, 1, 3, 1}, step{0, 3, 3, 1})
	cut(t, g, "aabc", step{0, 4, 4, 2})
	cut(t, g, "aabcd", step{2, 1, 5, 1}, step{0, 5, 5, 1})
	cut(t, g, "aabcde", step{0, 6, 6, 2})
}

// P17.1: each skip is counted, wherever it stands; how many bytes it has does not matter.
func TestSkips(t *testing.T) {
	g := with(tokens(many(digits)), one(" "), many("\n"), text("--"))
	cut(t, g, " ", step{0, 1, 1, 1})
	cut(t, g, "   ", step{0, 3, 3, 3})
	cut(t, g, "\n\n\n", step{0, 3, 3, 1})
	cut(t, g, "----", step{0, 4, 4, 2})
	cut(t, g, " \n\n \n--\n", step{0, 8, 8, 6})
	cut(t, g, "  5", step{1, 2, 3, 2}, step{0, 3, 3, 2})
	cut(t, g, "5  ", step{1, 0, 1, 0}, step{0, 3, 3, 2})
	cut(t, g, "5  6", step{1, 0, 1, 0}, step{1, 3, 4, 2}, step{0, 4, 4, 2})
	cut(t, g, "\n 12--\n\n3 \n", step{1, 2, 4, 2}, step{1, 8, 9, 4}, step{0, 11, 11, 6})
	cut(t, g, "12", step{1, 0, 2, 0}, step{0, 2, 2, 0})
	cut(t, g, "1--2", step{1, 0, 1, 0}, step{1, 3, 4, 1}, step{0, 4, 4, 1}) // what stands between cuts a number in two
	refused(t, g, " -", step{0, 1, 1, 1})

	// Two skips that match as many are one.
	g = with(tokens(one("a")), one(" "), text(" "), many(" "))
	cut(t, g, " a ", step{1, 1, 2, 1}, step{0, 3, 3, 2})
	cut(t, g, "  a  ", step{1, 2, 3, 1}, step{0, 5, 5, 2})
}

// P17.1: a grammar without tokens, without skips, without both.
func TestWithoutTokensOrSkips(t *testing.T) {
	skips := with(api.Grammar{}, one(" "), many("ab"))
	cut(t, skips, " ab ba", step{0, 6, 6, 4})
	refused(t, skips, " abc", step{0, 3, 3, 2})
	refused(t, skips, "c ", step{})

	alone := tokens(one(" "), many("ab"))
	cut(t, alone, " ab", step{1, 0, 1, 0}, step{2, 1, 3, 0}, step{0, 3, 3, 0})
	refused(t, alone, "ac", step{2, 0, 1, 0}, step{0, 1, 1, 0})

	for _, g := range []api.Grammar{{}, {Tokens: []api.Token{}, Skips: []api.Pat{}}} {
		for _, s := range []string{"a", " ", "\n", "\x00", "\xff", "abc", every()} {
			refused(t, g, s, step{})
		}
	}
}

// P17.1: patterns of nothing match no byte, wherever one is; they are counted among the terminals.
func TestPatternsOfNothing(t *testing.T) {
	none, no := api.Pat{}, api.Pat{Many: true}
	for _, g := range []api.Grammar{tokens(none), tokens(no), with(tokens(), none), with(tokens(), no), with(tokens(no, none), none, no)} {
		refused(t, g, "a", step{})
		refused(t, g, "\x00", step{})
	}
	g := with(tokens(none, one("a"), no, text("bb")), no, one(" "), none)
	cut(t, g, " abb ", step{2, 1, 2, 1}, step{4, 2, 4, 1}, step{0, 5, 5, 2})
	refused(t, g, "a b", step{2, 0, 1, 0}, step{0, 2, 2, 1})
	refused(t, g, "bb\x00", step{4, 0, 2, 0}, step{0, 2, 2, 0})
}

// P17.1: where no pattern matches a byte the place stays there, behind what was skipped ahead of it.
func TestErrors(t *testing.T) {
	g := chapter(t)
	refused(t, g, ";", step{})
	refused(t, g, ";1", step{})
	refused(t, g, "\xff", step{})
	refused(t, g, "12;34", step{1, 0, 2, 0}, step{0, 2, 2, 0})
	refused(t, g, "if;", step{2, 0, 2, 0}, step{0, 2, 2, 0})
	refused(t, g, " ;", step{0, 1, 1, 1})
	refused(t, g, "  ; if", step{0, 2, 2, 2})
	refused(t, g, "a  ;", step{3, 0, 1, 0}, step{0, 3, 3, 2})
	refused(t, g, " 1 a  A", step{1, 1, 2, 1}, step{3, 3, 4, 2}, step{0, 6, 6, 4})
	refused(t, g, "a\n", step{3, 0, 1, 0}, step{0, 1, 1, 0}) // no skip
	refused(t, g, "if \x00", step{2, 0, 2, 0}, step{0, 3, 3, 1})

	// The beginning of a token, or of a skip, is none.
	g = with(tokens(text("ab")), text("--"))
	refused(t, g, "a", step{})
	refused(t, g, "b", step{})
	refused(t, g, "-", step{})
	refused(t, g, "aba", step{1, 0, 2, 0}, step{0, 2, 2, 0})
	refused(t, g, "---ab", step{0, 2, 2, 1})

	c := scan.New(g, "ab---")
	c.Next()
	for i := range 1000 {
		if x, e := c.Next(); x != (api.Tok{From: 4, To: 4}) || e != api.ErrToken {
			t.Fatal(i, x, e)
		}
		stands(t, c, 4, 1)
	}
}

// P17.1: all bytes are cut one by one; no byte is part of a rune.
func TestAllBytes(t *testing.T) {
	all := every()
	for i := range 256 {
		x := all[i : i+1]
		others := all[:i] + all[i+1:]
		for _, p := range []api.Pat{text(x), one(x)} {
			cut(t, tokens(p), x+x, step{1, 0, 1, 0}, step{1, 1, 2, 0}, step{0, 2, 2, 0})
			cut(t, with(tokens(), p), x+x, step{0, 2, 2, 2})
			refused(t, tokens(p), others, step{})
		}
		cut(t, tokens(many(x)), x+x, step{1, 0, 2, 0}, step{0, 2, 2, 0})
		cut(t, tokens(one(x), many(others)), others+x, step{2, 0, 255, 0}, step{1, 255, 256, 0}, step{0, 256, 256, 0})
		cut(t, with(tokens(many(others)), one(x)), x+others+x, step{1, 1, 256, 1}, step{0, 257, 257, 2})
		refused(t, tokens(one(others)), x+others, step{})
	}
	cut(t, tokens(many(all)), all, step{1, 0, 256, 0}, step{0, 256, 256, 0})
	g := with(tokens(text("é"), one("\x00")), text("\xff\xfe"), one("\xa9"))
	cut(t, g, "éé\x00\xff\xfe\xa9\x00", step{1, 0, 2, 0}, step{1, 2, 4, 0}, step{2, 4, 5, 0}, step{2, 8, 9, 2}, step{0, 9, 9, 2})
	refused(t, g, "\xa9é\xc3", step{1, 1, 3, 1}, step{0, 3, 3, 1})
	refused(t, g, "\xffé", step{})
	g = tokens(one("é")) // 195 and 169
	cut(t, g, "é", step{1, 0, 1, 0}, step{1, 1, 2, 0}, step{0, 2, 2, 0})
}

// P17.1: At and Skipped ahead of the first Next, behind tokens, behind skips; asked for themselves they change nothing.
func TestAt(t *testing.T) {
	c := scan.New(chapter(t), "  if  12 x;")
	at, skipped := 0, 0 // nothing is skipped ahead of being asked for
	for _, x := range []struct {
		tok         api.Tok
		e           api.Errno
		at, skipped int
	}{
		{api.Tok{Term: 2, From: 2, To: 4}, api.OK, 4, 2},
		{api.Tok{Term: 1, From: 6, To: 8}, api.OK, 8, 4},
		{api.Tok{Term: 3, From: 9, To: 10}, api.OK, 10, 5},
		{api.Tok{From: 10, To: 10}, api.ErrToken, 10, 5},
	} {
		for range 3 {
			stands(t, c, at, skipped)
		}
		if tok, e := c.Next(); tok != x.tok || e != x.e {
			t.Fatal(tok, e, x)
		}
		at, skipped = x.at, x.skipped
	}
	stands(t, c, at, skipped)
}

// P17.2: with an error there are all tokens ahead of it, and the one at its place.
func TestAll(t *testing.T) {
	g := chapter(t)
	for _, x := range []struct {
		s    string
		e    api.Errno
		want []api.Tok
	}{
		{"", api.OK, []api.Tok{{}}},
		{"  ", api.OK, []api.Tok{{From: 2, To: 2}}},
		{"if", api.OK, []api.Tok{{Term: 2, To: 2}, {From: 2, To: 2}}},
		{" x 1 ", api.OK, []api.Tok{{Term: 3, From: 1, To: 2}, {Term: 1, From: 3, To: 4}, {From: 5, To: 5}}},
		{"!", api.ErrToken, []api.Tok{{}}},
		{" !", api.ErrToken, []api.Tok{{From: 1, To: 1}}},
		{" x 1 !if", api.ErrToken, []api.Tok{{Term: 3, From: 1, To: 2}, {Term: 1, From: 3, To: 4}, {From: 5, To: 5}}},
		{"x!!", api.ErrToken, []api.Tok{{Term: 3, To: 1}, {From: 1, To: 1}}},
	} {
		for range 2 {
			if got, e := scan.All(g, x.s); e != x.e || !slices.Equal(got, x.want) {
				t.Errorf("%q: %v, %v, want %v, %v", x.s, got, e, x.want, x.e)
			}
		}
	}
}

// P17.2: all places of short texts, and many that are none.
func TestText(t *testing.T) {
	far := []int{math.MinInt, math.MinInt + 1, -1 << 62, -1 << 40, -1 << 32, -1 << 31, -257, -256, -3, -2, -1, 256, 1 << 31, 1 << 32, 1 << 40, 1 << 62, math.MaxInt - 1, math.MaxInt}
	for _, s := range []string{"", "a", "ab", "abc", "if 12", "\x00\xff\x80", "é日本", every()[240:]} {
		places := slices.Clone(far)
		for i := range len(s) + 3 {
			places = append(places, i)
		}
		for _, from := range places {
			for _, to := range places {
				want := ""
				for i := range len(s) {
					if from >= 0 && to <= len(s) && from <= i && i < to {
						want += s[i : i+1]
					}
				}
				for _, term := range []int{0, 1, 7, -1, math.MaxInt, math.MinInt} {
					if got := scan.Text(s, api.Tok{Term: term, From: from, To: to}); got != want {
						t.Fatalf("%q: Text from %d to %d (%d) tells %q, want %q", s, from, to, term, got, want)
					}
				}
			}
		}
	}
}

// P17.2: the texts of the tokens that All tells.
func TestTextOfTokens(t *testing.T) {
	s := "if12  iff \xff"
	l, e := scan.All(chapter(t), s)
	var texts []string
	for _, x := range l {
		texts = append(texts, scan.Text(s, x))
	}
	if want := []string{"if", "12", "iff", ""}; e != api.ErrToken || !slices.Equal(texts, want) {
		t.Errorf("%q, %v, want %q", texts, e, want)
	}
}

// R6: scanners of one grammar, and of one text, go on by themselves.
func TestScannersApart(t *testing.T) {
	g, s := chapter(t), " if 2 x"
	a, b := scan.New(g, s), scan.New(g, s)
	other := scan.New(with(tokens(many(every()))), s)
	a.Next()
	a.Next()
	stands(t, b, 0, 0)
	if x, e := b.Next(); x != (api.Tok{Term: 2, From: 1, To: 3}) || e != api.OK {
		t.Error(x, e)
	}
	scan.All(g, s)
	stands(t, a, 5, 2)
	stands(t, b, 3, 1)
	if x, e := other.Next(); x != (api.Tok{Term: 1, To: 7}) || e != api.OK {
		t.Error(x, e)
	}
	if x, e := a.Next(); x != (api.Tok{Term: 3, From: 6, To: 7}) || e != api.OK {
		t.Error(x, e)
	}
	stands(t, b, 3, 1)
}

// R5: what is handed in is not changed; and what is done to it afterwards, or to an answer, changes no other one.
func TestNothingShared(t *testing.T) {
	g, s := chapter(t), "if 2;"
	g.Tokens, g.Skips = slices.Grow(g.Tokens, 5), slices.Grow(g.Skips, 5)
	wasTokens, wasSkips := slices.Clone(g.Tokens[:cap(g.Tokens)]), slices.Clone(g.Skips[:cap(g.Skips)])
	c := scan.New(g, s)
	first, _ := scan.All(g, s)
	if !slices.Equal(g.Tokens[:cap(g.Tokens)], wasTokens) || !slices.Equal(g.Skips[:cap(g.Skips)], wasSkips) {
		t.Error("the grammar was changed")
	}
	want := slices.Clone(first)
	clear(first[:cap(first)])
	if got, e := scan.All(g, s); e != api.ErrToken || !slices.Equal(got, want) {
		t.Error(got, e, want)
	}
	clear(g.Tokens)
	clear(g.Skips)
	for _, x := range want {
		if got, e := c.Next(); got != x || (e == api.OK) != (x.Term > 0) {
			t.Error(got, e, x)
		}
	}
	stands(t, c, 4, 1)
}

// R1: a scanner that no New made has no text; long texts, many skips one behind the other, and long patterns are cut all the same.
func TestLongOnes(t *testing.T) {
	var c scan.Scanner
	if x, e := c.Next(); x != (api.Tok{}) || e != api.OK {
		t.Error(x, e)
	}
	stands(t, &c, 0, 0)

	const long = 1 << 19
	spaces := strings.Repeat(" ", long)
	g := with(tokens(many("ab"), text(spaces+";")), one(" "))
	cut(t, g, spaces, step{0, long, long, long})
	cut(t, g, spaces+";", step{2, 0, long + 1, 0}, step{0, long + 1, long + 1, 0})
	refused(t, g, "b"+spaces[1:]+";", step{1, 0, 1, 0}, step{0, long, long, long - 1})
	words := strings.Repeat("ab ", long)
	l, e := scan.All(g, words)
	if len(l) != long+1 || e != api.OK {
		t.Fatal(len(l), e)
	}
	for i, x := range l[:long] {
		if x != (api.Tok{Term: 1, From: 3 * i, To: 3*i + 2}) {
			t.Fatal(i, x)
		}
	}
	cut(t, g, strings.Repeat("ab", long), step{1, 0, 2 * long, 0}, step{0, 2 * long, 2 * long, 0})
}
