package pattern_test

import (
	"fmt"
	"math"
	"slices"
	"strings"
	"testing"

	"tronage/api"
	"tronage/pattern"
	"tronage/reader"
)

// far are places that no text has.
var far = []int{math.MinInt, math.MinInt + 1, -1 << 62, -1 << 40, -1 << 31, -257, -256, -2, -1, 1 << 20, 1 << 31, 1 << 32, 1 << 40, 1 << 62, math.MaxInt - 1, math.MaxInt}

// text, one and many are patterns.
func text(s string) api.Pat { return api.Pat{Text: s} }
func one(s string) api.Pat  { return api.Pat{Set: s} }
func many(s string) api.Pat { return api.Pat{Set: s, Many: true} }

// every is the text of all bytes.
func every() string {
	var b []byte
	for i := range 256 {
		b = append(b, byte(i))
	}
	return string(b)
}

// digits and letters are such bytes.
const (
	digits  = "0123456789"
	letters = "abcdefghijklmnopqrstuvwxyz"
)

// quote is a text for a reader: no more than its first bytes.
func quote(s string) string { return fmt.Sprintf("%q (%d bytes)", s[:min(len(s), 300)], len(s)) }

// show is a pattern for a reader.
func show(p api.Pat) string {
	return fmt.Sprintf("{Text %s Set %s Many %v}", quote(p.Text), quote(p.Set), p.Many)
}

// lens fails the test if Len tells anything else at the places of a text, the one behind its last byte among them, or anything but 0 where there is none.
func lens(t *testing.T, p api.Pat, s string, want ...int) {
	t.Helper()
	var got []int
	for at := range len(s) + 1 {
		got = append(got, pattern.Len(p, s, at))
	}
	if !slices.Equal(got, append(slices.Clone(want), 0)) {
		t.Fatalf("of %s in %s Len tells %d, want %d, and 0 at its end", show(p), quote(s), got, want)
	}
	for _, at := range append([]int{len(s) + 1, len(s) + 2, len(s) + 256}, far...) {
		if n := pattern.Len(p, s, at); n != 0 {
			t.Fatalf("of %s in %s Len tells %d at %d, which is no place", show(p), quote(s), n, at)
		}
	}
}

// is fails the test if Is tells anything else of a text.
func is(t *testing.T, p api.Pat, s string, want bool) {
	t.Helper()
	if got := pattern.Is(p, s); got != want {
		t.Fatalf("of %s and %s Is tells %v", show(p), quote(s), got)
	}
}

// meets fails the test if Meets tells anything else of patterns, in either order.
func meets(t *testing.T, a, b api.Pat, want bool) {
	t.Helper()
	if got, back := pattern.Meets(a, b), pattern.Meets(b, a); got != want || back != want {
		t.Fatalf("of %s and %s Meets tells %v, the other way round %v", show(a), show(b), got, back)
	}
}

// example fails the test if Example tells anything else of a pattern.
func example(t *testing.T, p api.Pat, want string) {
	t.Helper()
	if got := pattern.Example(p); got != want {
		t.Fatalf("of %s Example tells %s, want %s", show(p), quote(got), quote(want))
	}
}

// The chapter's examples.
func TestExamples(t *testing.T) {
	lens(t, many(digits), "12a", 2, 1, 0)
	meets(t, text("if"), many(letters), true)
	meets(t, text("i f"), many(letters), false)
}

// P16.1: of a Text all its bytes count, or none.
func TestLenOfText(t *testing.T) {
	lens(t, text("ab"), "cabab", 0, 2, 0, 2, 0)
	lens(t, text("ab"), "ab", 2, 0)
	lens(t, text("aa"), "aaaa", 2, 2, 2, 0)
	lens(t, text("a"), "aab", 1, 1, 0)
	lens(t, text("Ab"), "abABAb", 0, 0, 0, 0, 2, 0)
	lens(t, text(" \n"), "  \n", 0, 2, 0)
	lens(t, text("\x00\xff"), "\x00\x00\xff\x00", 0, 2, 0, 0)
	lens(t, text("é"), "éé", 2, 0, 2, 0)
	lens(t, text("\xa9"), "é", 0, 1)
	lens(t, text(every()), every()+"\x00", append([]int{256}, make([]int, 256)...)...)

	// A text that is too short has only the beginning of it, or no byte.
	lens(t, text("ab"), "a", 0)
	lens(t, text("ab"), "ba", 0, 0)
	lens(t, text("ab"), "")
	lens(t, text("abc"), "ab", 0, 0)
	lens(t, text(strings.Repeat("a", 32)), strings.Repeat("a", 31), make([]int, 31)...)
	lens(t, text(strings.Repeat("a", 32)), strings.Repeat("a", 32), append([]int{32}, make([]int, 31)...)...)
}

// P16.1: of a Set one byte counts, or, of many, all that stand side by side.
func TestLenOfSet(t *testing.T) {
	lens(t, one(digits), "12a3", 1, 1, 0, 1)
	lens(t, many(digits), "12a3", 2, 1, 0, 1)
	lens(t, one("a"), "aaba", 1, 1, 0, 1)
	lens(t, many("a"), "aaba", 2, 1, 0, 1)
	lens(t, one("ab"), "abc", 1, 1, 0)
	lens(t, many("ab"), "abacab", 3, 2, 1, 0, 2, 1)
	lens(t, one("ab"), "cC A", 0, 0, 0, 0)
	lens(t, many("ab"), "cC A", 0, 0, 0, 0)
	lens(t, one("ab"), "")
	lens(t, many("ab"), "")
	lens(t, one("-"), "a-z", 0, 1, 0) // a - is a byte like others
	lens(t, many("a-z"), "a-zb", 3, 2, 1, 0)

	long := strings.Repeat("ab", 700)
	if n := pattern.Len(many("ba"), long+"c"+long, 3); n != 1397 {
		t.Errorf("of many Len tells %d", n)
	}
	if n := pattern.Len(one("ba"), long+"c"+long, 3); n != 1 {
		t.Errorf("of one Len tells %d", n)
	}
}

// P16.1: a pattern of nothing has nothing, Many or not.
func TestLenOfNothing(t *testing.T) {
	for _, p := range []api.Pat{{}, {Many: true}} {
		lens(t, p, "")
		lens(t, p, "a", 0)
		lens(t, p, "\x00\xffa", 0, 0, 0)
		lens(t, p, every(), make([]int, 256)...)
	}
}

// P16.1: where there is a Text a Set, and Many, are nothing; whether or not the text is that.
func TestTextCounts(t *testing.T) {
	for _, p := range []api.Pat{{Text: "ab"}, {Text: "ab", Many: true}, {Text: "ab", Set: "c"}, {Text: "ab", Set: "c", Many: true}, {Text: "ab", Set: "abc", Many: true}} {
		lens(t, p, "ababc", 2, 0, 2, 0, 0)
		lens(t, p, "c", 0)
		lens(t, p, "aab", 0, 2, 0)
		is(t, p, "ab", true)
		for _, s := range []string{"", "a", "b", "c", "cc", "abab", "abc", "cab"} {
			is(t, p, s, false)
		}
		example(t, p, "ab")
		meets(t, p, p, true)
		meets(t, p, text("ab"), true)
		meets(t, p, text("c"), false)
		meets(t, p, one("c"), false)
		meets(t, p, many("c"), false)
		meets(t, p, one("abc"), false)
		meets(t, p, many("abc"), true)
	}
	p := api.Pat{Text: "a", Set: "bc", Many: true}
	lens(t, p, "aab", 1, 1, 0)
	is(t, p, "aa", false)
	meets(t, p, api.Pat{Text: "b", Set: "bc", Many: true}, false)
	meets(t, p, api.Pat{Text: "a", Set: "de"}, true)
	example(t, p, "a")
}

// P16.1, P16.2: how a Set stands, and how often a byte does in it, does not matter.
func TestSetsOrder(t *testing.T) {
	for _, set := range []string{"abc", "cba", "bca", "acb", "aabc", "cbacba", "bbbbca", strings.Repeat("cab", 500)} {
		lens(t, one(set), "xcabx", 0, 1, 1, 1, 0)
		lens(t, many(set), "xcabx", 0, 3, 2, 1, 0)
		is(t, one(set), "b", true)
		is(t, many(set), "cba", true)
		is(t, many(set), "cbd", false)
		for _, other := range []string{"c", "dc", "dcd", "xxa", "ba"} {
			meets(t, one(set), one(other), true)
			meets(t, many(set), one(other), true)
		}
		meets(t, one(set), one("dd"), false)
		meets(t, one(set), text("b"), true)
		example(t, one(set), "a")
		example(t, many(set), "a")
	}
}

// P16.1, P16.2: all bytes are such as may be in a Set, each by itself; no byte is part of a rune.
func TestAllBytes(t *testing.T) {
	all := every()
	for i := range 256 {
		x := all[i : i+1]
		others := all[:i] + all[i+1:]
		for k := range 256 {
			y, n := all[k:k+1], 0
			if i == k {
				n = 1
			}
			lens(t, one(x), y, n)
			lens(t, many(x), y, n)
			lens(t, text(x), y, n)
			lens(t, one(others), y, 1-n)
			is(t, one(x), y, n == 1)
			is(t, many(others), y, n == 0)
			meets(t, one(x), many(y), n == 1)
			meets(t, text(x), one(y), n == 1)
			meets(t, text(x), text(y), n == 1)
		}
		meets(t, one(x), many(others), false)
		meets(t, many(x), one(others), false)
		meets(t, text(x), many(others), false)
		meets(t, many(all), one(x), true)
		lens(t, many(x), x+x+all[255-i:256-i]+x, 2, 1, 0, 1)
		lens(t, one(all), x+x, 1, 1)
		lens(t, many(all), x+x, 2, 1)
		example(t, one(x), x)
		example(t, many(x+"\xff"), x)
		example(t, one("\xff"+all[i:]), x)
		example(t, text(x), x)
	}
	lens(t, many("\xff\x00"), "\x00\xffa", 2, 1, 0)
	lens(t, many("\x80\xff"), "\x7f\x80\xfe\xff", 0, 1, 0, 1)
	lens(t, many(all), "ab\x00\xffé", 6, 5, 4, 3, 2, 1)
	is(t, many(all), all, true)
	is(t, many(all[1:]), all, false)
	is(t, many(all[:255]), all, false)
	if n := pattern.Len(many(all[:255]), all, 0); n != 255 {
		t.Errorf("of all bytes but 255 Len tells %d", n)
	}
	example(t, many(all), "\x00")
}

// P16.1, P16.2: a rune of more bytes than one is so many bytes of a Set.
func TestRunes(t *testing.T) {
	lens(t, one("é"), "é", 1, 1) // 195 and 169
	lens(t, many("é"), "éê", 3, 2, 1, 0)
	is(t, one("é"), "é", false)
	is(t, many("é"), "é", true)
	is(t, one("é"), "\xa9", true)
	is(t, many("é"), "\xe9", false) // its number is none of its bytes
	example(t, one("é"), "\xa9")
	example(t, many("日本"), "\x97")
	meets(t, one("é"), one("ê"), true) // both have 195
	meets(t, one("é"), text("é"), false)
	meets(t, many("é"), text("é"), true)
	meets(t, one("\xff"), one("ÿ"), false)
	meets(t, one("\xff"), one("\xef\xbf\xbd"), false) // what a byte that is no rune would be read as
	lens(t, one("\ufffd"), "\xff", 0)
}

// P16.2: all of a text counts.
func TestIs(t *testing.T) {
	is(t, text("if"), "if", true)
	for _, s := range []string{"i", "f", "iff", "ifif", " if", "if ", "IF", "fi"} {
		is(t, text("if"), s, false)
	}
	is(t, one("ab"), "a", true)
	is(t, one("ab"), "b", true)
	for _, s := range []string{"c", "aa", "ab", "ac", "ca"} {
		is(t, one("ab"), s, false)
	}
	for _, s := range []string{"a", "b", "ab", "ba", "bbbb", strings.Repeat("ab", 1000)} {
		is(t, many("ab"), s, true)
		is(t, many("ab"), s+"c", false)
		is(t, many("ab"), "c"+s, false)
		is(t, many("ab"), s+"c"+s, false)
	}
}

// P16.2: no pattern is the empty text; one of nothing is none.
func TestIsOfNothing(t *testing.T) {
	for _, p := range []api.Pat{{}, {Many: true}, text("a"), text("ab"), one("a"), many("a"), one("ab"), many("ab"), one(every()), many(every()), {Text: "a", Many: true}, {Text: "a", Set: "b"}, {Text: "a", Set: "b", Many: true}} {
		is(t, p, "", false)
	}
	for _, p := range []api.Pat{{}, {Many: true}} {
		for _, s := range []string{"a", "\x00", "\xff", "aa", every()} {
			is(t, p, s, false)
		}
	}
}

// P16.2: two Texts are both of one text just if they are the same.
func TestMeetsOfTexts(t *testing.T) {
	meets(t, text("if"), text("if"), true)
	meets(t, text("a"), text("a"), true)
	meets(t, text("\x00"), text("\x00"), true)
	for _, s := range []string{"i", "f", "iff", "ifi", "fi", "IF", "if ", " if", "of", "ig", "if\x00", "ifif"} {
		meets(t, text("if"), text(s), false)
	}
}

// P16.2: a Text and a Set.
func TestMeetsOfTextAndSet(t *testing.T) {
	meets(t, text("i"), one("i"), true)
	meets(t, text("i"), many("i"), true)
	meets(t, text("i"), one("hij"), true)
	meets(t, text("i"), many("hij"), true)
	meets(t, text("i"), one("h"), false)
	meets(t, text("i"), many("hj"), false)
	meets(t, text("ii"), one("i"), false)
	meets(t, text("ii"), one("hi"), false)
	meets(t, text("ii"), many("i"), true)
	meets(t, text("hi"), one("hi"), false)
	meets(t, text("hi"), many("hi"), true)
	meets(t, text("hi"), many("ih"), true)
	meets(t, text("hi"), many("h"), false)
	meets(t, text("hi"), many("i"), false)
	meets(t, text("hi!"), many("hi"), false)
	meets(t, text("!hi"), many("hi"), false)
	meets(t, text("h!i"), many("hi"), false)
	meets(t, text("if"), one(every()), false)
	meets(t, text("if"), many(every()), true)
	meets(t, text(every()), many(every()), true)
	meets(t, text(every()), many(every()[1:]), false)
	meets(t, text(every()), many(every()[:255]), false)
}

// P16.2: two Sets are both of one text just if they have a byte in common, Many or not.
func TestMeetsOfSets(t *testing.T) {
	for _, x := range []struct {
		a, b string
		want bool
	}{
		{"a", "a", true}, {"ab", "bc", true}, {"ab", "cb", true}, {"abc", "b", true}, {"az", "zy", true}, {"ab", "ba", true}, {"\x00a", "b\x00", true}, {"\xffa", "b\xff", true},
		{"a", "b", false}, {"ab", "c", false}, {"ab", "cd", false}, {"ac", "bd", false}, {"abc", "ABC", false}, {"\x00", "\xff", false}, {letters, digits, false}, {letters + "5", digits, true},
		{"a", "", false}, {"", "", false}, {every(), "", false}, {every(), "k", true}, {every(), every(), true},
		{every()[:128], every()[128:], false}, {every()[:129], every()[128:], true},
	} {
		meets(t, one(x.a), one(x.b), x.want)
		meets(t, one(x.a), many(x.b), x.want)
		meets(t, many(x.a), one(x.b), x.want)
		meets(t, many(x.a), many(x.b), x.want)
	}
}

// P16.2: patterns of nothing meet nothing, themselves neither.
func TestMeetsOfNothing(t *testing.T) {
	nothing := []api.Pat{{}, {Many: true}}
	for _, p := range nothing {
		for _, q := range append([]api.Pat{text("a"), text("ab"), one("a"), many("a"), one("\x00"), many("\x00"), one(every()), many(every()), {Text: "a", Set: "b", Many: true}}, nothing...) {
			meets(t, p, q, false)
		}
	}
}

// P16.2: the Text; or the least byte; or nothing.
func TestExample(t *testing.T) {
	example(t, text("zz"), "zz")
	example(t, text("\xff\x00"), "\xff\x00")
	example(t, text(every()+every()), every()+every())
	example(t, one("a"), "a")
	example(t, one("zcb"), "b")
	example(t, many("zcb"), "b")
	example(t, many("bzc"), "b")
	example(t, one("z\x00c"), "\x00")
	example(t, one("\xff\xfe"), "\xfe")
	example(t, many("\x80\x7f"), "\x7f")
	example(t, many("zzzyzz"), "y")
	example(t, one("aZ9"), "9")
	example(t, api.Pat{}, "")
	example(t, api.Pat{Many: true}, "")
}

// R6: the same is told again, whatever was asked between.
func TestAskedAgain(t *testing.T) {
	for range 50 {
		lens(t, many(digits), "12a", 2, 1, 0)
		is(t, many(every()), every(), true)
		meets(t, many(every()), text(every()), true)
		is(t, many("ab"), "abc", false)
		meets(t, one("ab"), one("cd"), false)
		lens(t, api.Pat{}, "ab", 0, 0)
		example(t, one("ba"), "a")
		example(t, api.Pat{}, "")
	}
}

// R1: long texts, and long Sets, are told of all the same.
func TestLongOnes(t *testing.T) {
	const long = 1 << 22
	s := strings.Repeat("ab", long/2)
	if n := pattern.Len(many("ab"), s+"c", 1); n != long-1 {
		t.Errorf("of a long text Len tells %d", n)
	}
	if n := pattern.Len(text(s), s+s, long); n != long {
		t.Errorf("of a long Text Len tells %d", n)
	}
	is(t, many(s), s, true)
	is(t, text(s), s, true)
	is(t, text(s[:long-1]), s, false)
	meets(t, many(s), text(s), true)
	meets(t, text(s), text(s[:long-1]), false)
	meets(t, one(s), one("cb"), true)
	example(t, many(s), "a")
	example(t, text(s), s)
}

// P16.1, P16.2: patterns as they are read from a grammar.
func TestReadPatterns(t *testing.T) {
	g, d := reader.Read("%token N [0-9]+ %token P \"+\" %token I \"if\" %token W [a-z_]+ %token C [\\n\\t] %skip [ \\n]+ %% E : N ;")
	if d.Code != api.OK {
		t.Fatal(d)
	}
	s := "if iff_3+45\n \n"
	want := [][]int{
		{0, 0, 0, 0, 0, 0, 0, 1, 0, 2, 1, 0, 0, 0},
		{0, 0, 0, 0, 0, 0, 0, 0, 1, 0, 0, 0, 0, 0},
		{2, 0, 0, 2, 0, 0, 0, 0, 0, 0, 0, 0, 0, 0},
		{2, 1, 0, 4, 3, 2, 1, 0, 0, 0, 0, 0, 0, 0},
		{0, 0, 0, 0, 0, 0, 0, 0, 0, 0, 0, 1, 0, 1},
	}
	for i, x := range g.Tokens {
		lens(t, x.Pat, s, want[i]...)
		is(t, x.Pat, pattern.Example(x.Pat), true)
		for _, y := range g.Tokens {
			both := x.Name + y.Name
			meets(t, x.Pat, y.Pat, x.Name == y.Name || both == "IW" || both == "WI")
		}
		meets(t, x.Pat, g.Skips[0], x.Name == "C")
	}
	lens(t, g.Skips[0], s, 0, 0, 1, 0, 0, 0, 0, 0, 0, 0, 0, 3, 2, 1)
}
