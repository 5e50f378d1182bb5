package expr_test

import (
	"fmt"
	"math"
	"slices"
	"strings"
	"sync"
	"testing"

	"tronage/api"
	"tronage/expr"
)

// num, val, node, neg and two are expressions.
func num(n int) api.Expr                { return api.Expr{Kind: api.Num, N: n} }
func val(n int) api.Expr                { return api.Expr{Kind: api.Val, N: n} }
func node(n int) api.Expr               { return api.Expr{Kind: api.Node, N: n} }
func neg(x api.Expr) api.Expr           { return api.Expr{Kind: api.Neg, Kids: []api.Expr{x}} }
func two(k int, a, b api.Expr) api.Expr { return api.Expr{Kind: k, Kids: []api.Expr{a, b}} }

// with is an expression with other kids.
func with(x api.Expr, kids ...api.Expr) api.Expr {
	x.Kids = kids
	return x
}

// same tells whether two expressions are one; a nil list is an empty one.
func same(a, b api.Expr) bool {
	return a.Kind == b.Kind && a.N == b.N && slices.EqualFunc(a.Kids, b.Kids, same)
}

// deepCopy is an expression that shares no list with another one.
func deepCopy(x api.Expr) api.Expr {
	x.Kids = slices.Clone(x.Kids)
	for i := range x.Kids {
		x.Kids[i] = deepCopy(x.Kids[i])
	}
	return x
}

// quote is a text for a reader: no more than its first bytes.
func quote(s string) string { return fmt.Sprintf("%q (%d bytes)", s[:min(len(s), 300)], len(s)) }

// reads fails the test if Read tells anything else than an expression.
func reads(t *testing.T, s string, want api.Expr) {
	t.Helper()
	if x, e, at := expr.Read(s); e != api.OK || at != 0 || !same(x, want) {
		t.Fatalf("of %s Read tells %+v, %d at %d, want %+v", quote(s), x, e, at, want)
	}
}

// refuses fails the test if Read tells anything else than what is wrong, and where.
func refuses(t *testing.T, s string, want api.Errno, place int) {
	t.Helper()
	if x, e, at := expr.Read(s); e != want || at != place || !same(x, api.Expr{}) {
		t.Fatalf("of %s Read tells %+v, %d at %d, want %d at %d", quote(s), x, e, at, want, place)
	}
}

// shows fails the test if Show tells anything else of what a text is read as.
func shows(t *testing.T, s, want string) {
	t.Helper()
	x, e, at := expr.Read(s)
	if got := expr.Show(x); e != api.OK || at != 0 || got != want {
		t.Fatalf("%s is read as %s, %d at %d, want %s", quote(s), got, e, at, want)
	}
}

// is fails the test if Show, Right, Size or Most tells anything else of an expression, or changes it.
func is(t *testing.T, x api.Expr, show string, right bool, size, most int) {
	t.Helper()
	before := deepCopy(x)
	if got := expr.Show(x); got != show {
		t.Fatalf("of %+v Show tells %s, want %s", x, quote(got), quote(show))
	}
	if got := expr.Right(x); got != right {
		t.Fatalf("of %+v Right tells %v", x, got)
	}
	if got := expr.Size(x); got != size {
		t.Fatalf("of %+v Size tells %d, want %d", x, got, size)
	}
	if got := expr.Most(x); got != most {
		t.Fatalf("of %+v Most tells %d, want %d", x, got, most)
	}
	if !same(x, before) {
		t.Fatalf("%+v has become %+v", before, x)
	}
}

// The chapter's examples.
func TestExamples(t *testing.T) {
	reads(t, "$1 + $3 * -2", two(api.Add, val(1), two(api.Mul, val(3), neg(num(2)))))
	shows(t, "$1 + $3 * -2", "($1 + ($3 * (-2)))")
	refuses(t, "1 +", api.ErrExpr, 3)
	refuses(t, "$ 1", api.ErrExpr, 1)
}

// P20.1: an empty text, or one with spaces alone, is the expression that has nothing.
func TestReadNothing(t *testing.T) {
	for _, s := range []string{"", " ", "\t", "\n", "\r", "  ", "\r\n", " \t\n\r", "\r\n\t \r\n", strings.Repeat(" ", 200), strings.Repeat("\t\n\r ", 50)} {
		reads(t, s, api.Expr{})
	}
}

// P20.1: each kind by itself.
func TestReadKinds(t *testing.T) {
	reads(t, "7", num(7))
	reads(t, "$7", val(7))
	reads(t, "@7", node(7))
	reads(t, "-7", neg(num(7)))
	reads(t, "1+2", two(api.Add, num(1), num(2)))
	reads(t, "1-2", two(api.Sub, num(1), num(2)))
	reads(t, "1*2", two(api.Mul, num(1), num(2)))
	reads(t, "1/2", two(api.Div, num(1), num(2)))
	reads(t, "1%2", two(api.Mod, num(1), num(2)))
	reads(t, "(7)", num(7))
}

// apart is a text of all kinds of parts, without a space.
const apart = "($1+@20)*-(3--4)/5%006"

// apartAs is what it is read as.
var apartAs = two(api.Mod, two(api.Div, two(api.Mul, two(api.Add, val(1), node(20)), neg(two(api.Sub, num(3), neg(num(4))))), num(5)), num(6))

// P20.1: spaces may stand ahead, behind, and between all parts, but not within a number, nor behind $ or @.
func TestReadSpaces(t *testing.T) {
	reads(t, apart, apartAs)
	parts := []string{"", "(", "$1", "+", "@20", ")", "*", "-", "(", "3", "-", "-", "4", ")", "/", "5", "%", "006", ""}
	for _, space := range []string{" ", "\t", "\n", "\r", "  ", " \t\n\r", "\r\n\r\n\t\t"} {
		reads(t, strings.Join(parts, space), apartAs)
		for i := range len(apart) + 1 {
			s := apart[:i] + space + apart[i:]
			switch {
			case i > 0 && strings.Contains("$@", apart[i-1:i]):
				refuses(t, s, api.ErrExpr, i)
			case i > 0 && i < len(apart) && digit(apart[i-1]) && digit(apart[i]):
				refuses(t, s, api.ErrExpr, i+len(space))
			default:
				reads(t, s, apartAs)
			}
		}
		reads(t, space+"1", num(1))
		reads(t, "$1"+space, val(1))
		refuses(t, "1"+space+"2", api.ErrExpr, 1+len(space))
		refuses(t, "12"+space+"34+5", api.ErrExpr, 2+len(space))
		refuses(t, "$1"+space+"2", api.ErrExpr, 2+len(space))
		refuses(t, "$"+space+"1", api.ErrExpr, 1)
		refuses(t, "@"+space+"1", api.ErrExpr, 1)
		refuses(t, "1+@"+space+"1", api.ErrExpr, 3)
		refuses(t, "$"+space, api.ErrExpr, 1)
		refuses(t, "1+"+space, api.ErrExpr, 2+len(space))
		refuses(t, "("+space, api.ErrExpr, 1+len(space))
		refuses(t, "(1"+space, api.ErrExpr, 2+len(space))
	}
}

// digit tells whether a byte is one.
func digit(c byte) bool { return strings.IndexByte("0123456789", c) >= 0 }

// P20.1: in each place just some bytes go on, of all that there are.
func TestAllBytes(t *testing.T) {
	const spaces, numbers, factors, signs = " \t\n\r", "0123456789", "-($@", "+-*/%"
	for _, x := range []struct{ ahead, goOn string }{
		{"", spaces + numbers + factors},
		{" ", spaces + numbers + factors},
		{"(", spaces + numbers + factors},
		{"-", spaces + numbers + factors},
		{"1+", spaces + numbers + factors},
		{"1-", spaces + numbers + factors},
		{"$1*", spaces + numbers + factors},
		{"@1/", spaces + numbers + factors},
		{"(1)% ", spaces + numbers + factors},
		{"$", numbers},
		{"@", numbers},
		{"(-$", numbers},
		{"1", spaces + numbers + signs},
		{"-12", spaces + numbers + signs},
		{"$1", spaces + numbers + signs},
		{"@01", spaces + numbers + signs},
		{"1+1", spaces + numbers + signs},
		{"1 ", spaces + signs},
		{"(1)", spaces + signs},
		{"-(-1) ", spaces + signs},
		{"(1", spaces + numbers + signs + ")"},
		{"1*(1+1 ", spaces + signs + ")"},
		{"((1)", spaces + signs + ")"},
	} {
		for b := range 256 {
			c := string([]byte{byte(b)})
			for _, behind := range []string{"", "1", "+", ")", " ", "x"} {
				s := x.ahead + c + behind
				if !strings.Contains(x.goOn, c) {
					refuses(t, s, api.ErrExpr, len(x.ahead))
				} else if _, e, at := expr.Read(s); e != api.OK && at <= len(x.ahead) {
					t.Fatalf("of %s Read tells %d at %d", quote(s), e, at)
				}
			}
		}
	}
	for _, s := range []string{"é", "\xc2\xa0", "\u2212", "１", "\x80", "\xff", "\x00", "\x00\x00", "x", "1e3", "0x1", "1_0", "1.0", "a+b"} {
		at := 0
		if digit(s[0]) {
			at = 1
		}
		refuses(t, s, api.ErrExpr, at)
		refuses(t, "1+"+s, api.ErrExpr, at+2)
		refuses(t, "1 "+s, api.ErrExpr, 2)
	}
}

// P20.1: a number has up to 18 digits, noughts ahead among them.
func TestNumbers(t *testing.T) {
	for _, x := range []struct {
		s string
		n int
	}{
		{"0", 0}, {"9", 9}, {"00", 0}, {"007", 7}, {"10", 10}, {"1234567890", 1234567890}, {"99999999999999999", 99999999999999999},
		{"999999999999999999", 999999999999999999}, {"123456789012345678", 123456789012345678}, {"100000000000000000", 100000000000000000},
		{"000000000000000000", 0}, {"000000000000000001", 1}, {"012345678901234567", 12345678901234567},
	} {
		reads(t, x.s, num(x.n))
		reads(t, "$"+x.s, val(x.n))
		reads(t, "@"+x.s, node(x.n))
		reads(t, "-"+x.s, neg(num(x.n)))
		reads(t, x.s+"-"+x.s, two(api.Sub, num(x.n), num(x.n)))
	}
	for _, s := range []string{"1234567890123456789", "9999999999999999999", "0000000000000000000", "0000000000000000001", "1000000000000000000", "9223372036854775807", "9223372036854775808", "18446744073709551616", strings.Repeat("7", 100), strings.Repeat("0", 199)} {
		for _, ahead := range []string{"", " ", "$", "@", "1+", "-", "(", "1 * $"} {
			if text := ahead + s; len(text) <= 200 {
				refuses(t, text, api.ErrExpr, len(ahead)+18)
				refuses(t, text[:len(ahead)+19], api.ErrExpr, len(ahead)+18)
			}
		}
	}
	refuses(t, "1234567890123456789+", api.ErrExpr, 18)
	refuses(t, "1234567890123456789)x", api.ErrExpr, 18)
	refuses(t, "123456789012345678 9", api.ErrExpr, 19)
	refuses(t, "123456789012345678x", api.ErrExpr, 18)
	refuses(t, "$123456789012345678$9", api.ErrExpr, 19)
}

// P20.1: behind $ and @ a number stands.
func TestNoNumber(t *testing.T) {
	for _, sign := range []string{"$", "@"} {
		for _, behind := range []string{"", " ", "+1", "-1", "(1)", ")", "$1", "@1", "x", "\x00", "\xff"} {
			refuses(t, sign+behind, api.ErrExpr, 1)
			refuses(t, "1*"+sign+behind, api.ErrExpr, 3)
			refuses(t, "(-"+sign+behind, api.ErrExpr, 3)
		}
		reads(t, sign+"0", api.Expr{Kind: map[string]int{"$": api.Val, "@": api.Node}[sign]})
	}
}

// P20.1: a sign has a part on both sides.
func TestSignsWithoutParts(t *testing.T) {
	for _, sign := range []string{"+", "-", "*", "/", "%"} {
		refuses(t, "1"+sign, api.ErrExpr, 2)
		refuses(t, "1 "+sign+" ", api.ErrExpr, 4)
		refuses(t, "1"+sign+"2"+sign, api.ErrExpr, 4)
		refuses(t, "(1"+sign+")", api.ErrExpr, 3)
		refuses(t, "(1)"+sign, api.ErrExpr, 4)
		refuses(t, "1"+sign+"-", api.ErrExpr, 3)
		refuses(t, "1"+sign+"(", api.ErrExpr, 3)
		refuses(t, "1"+sign+"x", api.ErrExpr, 2)
		for _, other := range []string{"+", "*", "/", "%"} {
			refuses(t, "1"+sign+other+"2", api.ErrExpr, 2)
			refuses(t, other, api.ErrExpr, 0)
			refuses(t, other+"1", api.ErrExpr, 0)
			refuses(t, "-"+other+"1", api.ErrExpr, 1)
			refuses(t, "("+other+"1)", api.ErrExpr, 1)
			refuses(t, " "+other+sign+"1", api.ErrExpr, 1)
		}
	}
	refuses(t, "-", api.ErrExpr, 1)
	refuses(t, "--", api.ErrExpr, 2)
	refuses(t, "1--", api.ErrExpr, 3)
}

// P20.1: each bracket has one that closes it, and a sum between.
func TestBrackets(t *testing.T) {
	reads(t, "((1))", num(1))
	reads(t, "(1+2)*3", two(api.Mul, two(api.Add, num(1), num(2)), num(3)))
	reads(t, "1-(2-3)", two(api.Sub, num(1), two(api.Sub, num(2), num(3))))
	reads(t, "1/((2)%(3))", two(api.Div, num(1), two(api.Mod, num(2), num(3))))
	reads(t, "($1)-(@2)", two(api.Sub, val(1), node(2)))

	refuses(t, ")", api.ErrExpr, 0)
	refuses(t, "())", api.ErrExpr, 1)
	refuses(t, "()", api.ErrExpr, 1)
	refuses(t, "( )", api.ErrExpr, 2)
	refuses(t, "1)", api.ErrExpr, 1)
	refuses(t, "(1))", api.ErrExpr, 3)
	refuses(t, "(1) ) + 1", api.ErrExpr, 4)
	refuses(t, "((1)))", api.ErrExpr, 5)
	refuses(t, "(", api.ErrExpr, 1)
	refuses(t, "(1", api.ErrExpr, 2)
	refuses(t, "((1)", api.ErrExpr, 4)
	refuses(t, "((1) ", api.ErrExpr, 5)
	refuses(t, "(1+(2)", api.ErrExpr, 6)
	refuses(t, "1(2)", api.ErrExpr, 1)
	refuses(t, "(1)(2)", api.ErrExpr, 3)
	refuses(t, "(1)2", api.ErrExpr, 3)
	refuses(t, "(1)$2", api.ErrExpr, 3)
	refuses(t, "(1 2)", api.ErrExpr, 3)
	refuses(t, "$(1)", api.ErrExpr, 1)
	refuses(t, "[1]", api.ErrExpr, 0)
	refuses(t, "(1]", api.ErrExpr, 2)
}

// P20.1: a - is a sign between parts, and begins a factor ahead of one.
func TestMinus(t *testing.T) {
	reads(t, "--1", neg(neg(num(1))))
	reads(t, "- - -$1", neg(neg(neg(val(1)))))
	reads(t, "-(1)", neg(num(1)))
	reads(t, "-(1+2)", neg(two(api.Add, num(1), num(2))))
	reads(t, "-(-(-1))", neg(neg(neg(num(1)))))
	reads(t, "1-2", two(api.Sub, num(1), num(2)))
	reads(t, "1--2", two(api.Sub, num(1), neg(num(2))))
	reads(t, "1---2", two(api.Sub, num(1), neg(neg(num(2)))))
	reads(t, "1+-2", two(api.Add, num(1), neg(num(2))))
	reads(t, "1*-2", two(api.Mul, num(1), neg(num(2))))
	reads(t, "1/--2", two(api.Div, num(1), neg(neg(num(2)))))
	reads(t, "1%-(2)", two(api.Mod, num(1), neg(num(2))))
	reads(t, "-1+2", two(api.Add, neg(num(1)), num(2)))
	reads(t, "-1*2", two(api.Mul, neg(num(1)), num(2)))
	reads(t, "-1-2", two(api.Sub, neg(num(1)), num(2)))
	reads(t, "-1*-2-3", two(api.Sub, two(api.Mul, neg(num(1)), neg(num(2))), num(3)))
	reads(t, "(1)-2", two(api.Sub, num(1), num(2)))
	reads(t, "-0", neg(num(0)))
}

// P20.1: sums and products are put together from the left, products ahead of sums.
func TestFromTheLeft(t *testing.T) {
	shows(t, "1-2-3", "((1 - 2) - 3)")
	shows(t, "1+2+3+4", "(((1 + 2) + 3) + 4)")
	shows(t, "1-2+3-4+5", "((((1 - 2) + 3) - 4) + 5)")
	shows(t, "1/2/3", "((1 / 2) / 3)")
	shows(t, "1*2/3%4*5", "((((1 * 2) / 3) % 4) * 5)")
	shows(t, "1%2*3", "((1 % 2) * 3)")
	shows(t, "1+2*3", "(1 + (2 * 3))")
	shows(t, "1*2+3", "((1 * 2) + 3)")
	shows(t, "1-2*3%$4", "(1 - ((2 * 3) % $4))")
	shows(t, "1-2*3-4/5-6", "(((1 - (2 * 3)) - (4 / 5)) - 6)")
	shows(t, "1-(2-3)-4", "((1 - (2 - 3)) - 4)")
	shows(t, "1/(2/3)/4", "((1 / (2 / 3)) / 4)")
	shows(t, "-1/-2/-3", "(((-1) / (-2)) / (-3))")

	sum, product := num(1), num(1)
	for range 99 {
		sum, product = two(api.Sub, sum, num(1)), two(api.Div, product, num(1))
	}
	reads(t, "1"+strings.Repeat("-1", 99), sum)
	reads(t, "1"+strings.Repeat("/1", 99), product)
}

// levels are texts that open factors, each so many, one in another.
func levels(n int) []string {
	var l []string
	for _, open := range []string{"(", "-", "-(", "(-", "((-", "--(", "---((("} {
		l = append(l, strings.Repeat(open, n)[:n])
	}
	return l
}

// closing is what closes all brackets of a text.
func closing(s string) string { return strings.Repeat(")", strings.Count(s, "(")) }

// P20.1: factors are 20 deep at most: the whole is the first.
func TestDeep(t *testing.T) {
	for n := range 20 {
		for _, s := range levels(n) {
			x := num(1)
			for range strings.Count(s, "-") {
				x = neg(x)
			}
			whole := s + "1" + closing(s)
			reads(t, whole, x)
			reads(t, whole+"-"+whole+"*"+whole, two(api.Sub, x, two(api.Mul, x, x)))
		}
	}
	for n := 20; n < 60; n++ {
		for _, s := range levels(n) {
			refuses(t, s+"1"+closing(s), api.ErrDeep, 20)
			refuses(t, "1+"+s+"1"+closing(s), api.ErrDeep, 22)
			refuses(t, s, map[bool]api.Errno{true: api.ErrExpr, false: api.ErrDeep}[n == 20], 20)
		}
	}
}

// P20.1: how deep a factor is hangs on those alone that it is in, not on those beside it.
func TestDeepBeside(t *testing.T) {
	brackets, signs := strings.Repeat("(", 19), strings.Repeat("-", 19)
	shut := strings.Repeat(")", 19)
	shows(t, brackets+"1+2*3"+shut, "(1 + (2 * 3))")
	refuses(t, brackets+"1+-2"+shut, api.ErrDeep, 22)
	refuses(t, brackets+"1*(2)"+shut, api.ErrDeep, 22)
	shows(t, brackets+"1"+shut+"*"+signs+"2", "(1 * "+strings.Repeat("(-", 19)+"2"+shut+")")
	shows(t, signs+"1--2", "("+strings.Repeat("(-", 19)+"1"+shut+" - (-2))")
	shows(t, "("+signs[1:]+"1-"+signs[1:]+"2)", "("+strings.Repeat("(-", 18)+"1"+shut[1:]+" - "+strings.Repeat("(-", 18)+"2"+shut[1:]+")")
	refuses(t, "("+signs+"1)", api.ErrDeep, 20)
	refuses(t, "(1-"+signs+"1)", api.ErrDeep, 22)
	refuses(t, "(1)*"+brackets+"-1", api.ErrDeep, 24)
}

// P20.1: where a factor is too deep its first byte tells so, whatever comes behind; a byte with which none begins is ErrExpr.
func TestTooDeep(t *testing.T) {
	for _, s := range levels(20) {
		for _, begin := range []string{"1", "0", "9", "$", "@", "-", "("} {
			for _, behind := range []string{"", "1", " ", "x", ")", strings.Repeat("7", 30), "-----", "(((("} {
				refuses(t, s+begin+behind, api.ErrDeep, 20)
				refuses(t, s+" \t\n\r"+begin+behind, api.ErrDeep, 24)
			}
		}
		for _, other := range []string{"", ")", "+", "*", "/", "%", "x", "\x00", "\xff", "+1", ")-1"} {
			refuses(t, s+other, api.ErrExpr, 20)
			refuses(t, s+" "+other, api.ErrExpr, 21)
		}
		refuses(t, "1 2"+s+"1", api.ErrExpr, 2)
		refuses(t, "$"+s+"1", api.ErrExpr, 1)
		refuses(t, "1+1234567890123456789"+s+"1", api.ErrExpr, 20)
	}
	for _, s := range levels(19) {
		refuses(t, s+"$", api.ErrExpr, 20)
		refuses(t, s+"1234567890123456789", api.ErrExpr, 37)
		refuses(t, s+")", api.ErrExpr, 19)
	}
}

// P20.1: a text has up to 200 bytes; a longer one is too long, whatever it is.
func TestLong(t *testing.T) {
	x := num(1)
	for range 99 {
		x = two(api.Add, x, num(1))
	}
	sum := "1" + strings.Repeat("+1", 99) // 199 bytes
	reads(t, sum, x)
	reads(t, sum+" ", x)
	reads(t, " "+sum, x)
	reads(t, strings.Repeat(" ", 199)+"1", num(1))
	reads(t, "$"+strings.Repeat("0", 17)+"1"+strings.Repeat("\n", 181), val(1))
	refuses(t, sum+"+", api.ErrExpr, 200)
	refuses(t, sum+")", api.ErrExpr, 199)
	refuses(t, strings.Repeat("x", 200), api.ErrExpr, 0)
	refuses(t, strings.Repeat("(", 200), api.ErrDeep, 20)
	refuses(t, strings.Repeat(" ", 199)+"(", api.ErrExpr, 200)

	for _, s := range []string{sum + "  ", " " + sum + " ", sum + "+1", sum + "))", strings.Repeat(" ", 201), strings.Repeat("x", 201), strings.Repeat("1", 201), strings.Repeat("(", 201), strings.Repeat("-", 201), strings.Repeat("\x00", 201), strings.Repeat("é", 101), strings.Repeat(" ", 1000000), strings.Repeat("1+", 1000000)} {
		refuses(t, s, api.ErrLong, 0)
	}
}

// P20.2: of the expression that has nothing.
func TestNothing(t *testing.T) {
	is(t, api.Expr{}, "", true, 0, 0)
	is(t, with(api.Expr{}), "", true, 0, 0)
	is(t, api.Expr{Kids: []api.Expr{}}, "", true, 0, 0)
}

// P20.2: of each kind by itself, and of some in others.
func TestKinds(t *testing.T) {
	is(t, num(0), "0", true, 1, 0)
	is(t, num(7), "7", true, 1, 0)
	is(t, val(0), "$0", true, 1, 0)
	is(t, val(7), "$7", true, 1, 7)
	is(t, node(0), "@0", true, 1, 0)
	is(t, node(12), "@12", true, 1, 12)
	is(t, with(num(7), []api.Expr{}...), "7", true, 1, 0)
	is(t, neg(num(7)), "(-7)", true, 2, 0)
	is(t, neg(val(7)), "(-$7)", true, 2, 7)
	is(t, neg(neg(node(7))), "(-(-@7))", true, 3, 7)
	for kind, sign := range map[int]string{api.Add: "+", api.Sub: "-", api.Mul: "*", api.Div: "/", api.Mod: "%"} {
		is(t, two(kind, num(9), num(8)), "(9 "+sign+" 8)", true, 3, 0)
		is(t, two(kind, val(1), node(2)), "($1 "+sign+" @2)", true, 3, 2)
		is(t, two(kind, two(kind, val(5), num(6)), neg(node(3))), "(($5 "+sign+" 6) "+sign+" (-@3))", true, 6, 5)
		is(t, neg(two(kind, num(1), two(kind, num(2), num(3)))), "(-(1 "+sign+" (2 "+sign+" 3)))", true, 6, 0)
	}
	is(t, two(api.Add, val(1), two(api.Mul, val(3), neg(num(2)))), "($1 + ($3 * (-2)))", true, 6, 3)
}

// P20.2: numbers have up to 18 digits, and none where a kind has none.
func TestRightNumbers(t *testing.T) {
	for _, k := range []struct {
		kind int
		sign string
	}{{api.Num, ""}, {api.Val, "$"}, {api.Node, "@"}} {
		for _, x := range []struct {
			n     int
			right bool
		}{
			{0, true}, {1, true}, {1 << 40, true}, {1<<40 + 1, true}, {99999999999999999, true}, {100000000000000000, true}, {999999999999999999, true},
			{1000000000000000000, false}, {1000000000000000001, false}, {math.MaxInt, false}, {-1, false}, {-7, false}, {-999999999999999999, false}, {math.MinInt, false}, {math.MinInt + 1, false},
		} {
			y, most := api.Expr{Kind: k.kind, N: x.n}, 0
			if k.kind != api.Num {
				most = max(0, x.n)
			}
			text := k.sign + fmt.Sprint(x.n)
			is(t, y, text, x.right, 1, most)
			is(t, neg(y), "(-"+text+")", x.right, 2, most)
			is(t, two(api.Mod, y, num(3)), "("+text+" % 3)", x.right, 3, most)
			is(t, two(api.Mul, num(3), y), "(3 * "+text+")", x.right, 3, most)
		}
	}
	for _, n := range []int{1, -1, 7, 999999999999999999, 1000000000000000000, math.MaxInt, math.MinInt} {
		x := neg(num(4))
		x.N = n
		is(t, x, "(-4)", false, 2, 0)
		is(t, two(api.Add, x, num(4)), "((-4) + 4)", false, 4, 0)
		for kind := api.Add; kind <= api.Mod; kind++ {
			x := two(kind, val(4), num(5))
			x.N = n
			is(t, x, "($4 "+string("+-*/%"[kind-api.Add])+" 5)", false, 3, 4)
		}
		is(t, api.Expr{N: n}, "", false, 0, 0)
	}
}

// P20.2: kinds are from 1 to 9, but of the zero expression.
func TestRightKinds(t *testing.T) {
	for _, kind := range []int{10, 11, 13, 255, 256, 257, 1 << 32, 1<<32 + 1, math.MaxInt, -1, -5, -9, -256, math.MinInt} {
		for _, x := range []api.Expr{{Kind: kind}, {Kind: kind, N: 5}} {
			is(t, x, "", false, 1, 0)
			is(t, neg(x), "(-)", false, 2, 0)
			is(t, two(api.Add, x, val(2)), "( + $2)", false, 3, 2)
			is(t, two(api.Add, val(2), x), "($2 + )", false, 3, 2)
			is(t, with(x, val(3)), "", false, 2, 3)
			is(t, with(x, val(3), node(4), num(5)), "", false, 4, 4)
		}
	}
	is(t, with(api.Expr{}, num(1)), "", false, 0, 0)
	is(t, with(api.Expr{}, api.Expr{}), "", false, 0, 0)
	is(t, with(api.Expr{}, num(1), num(2)), "", false, 0, 0)
}

// P20.2: as many kids as a kind has, each of them right, and none the zero one.
func TestRightKids(t *testing.T) {
	for _, x := range []api.Expr{num(1), val(1), node(1)} {
		text, most := expr.Show(x), x.N
		if x.Kind == api.Num {
			most = 0
		}
		is(t, with(x, num(2)), text, false, 2, most)
		is(t, with(x, api.Expr{}), text, false, 1, most)
		is(t, with(x, num(2), val(3)), text, false, 3, max(most, 3))
	}
	is(t, with(neg(num(1))), "(-)", false, 1, 0)
	is(t, with(neg(num(1)), num(1), val(2)), "(-1)", false, 3, 2)
	is(t, with(neg(num(1)), num(1), api.Expr{}), "(-1)", false, 2, 0)
	is(t, neg(api.Expr{}), "(-)", false, 1, 0)
	is(t, neg(neg(api.Expr{})), "(-(-))", false, 2, 0)
	for kind := api.Add; kind <= api.Mod; kind++ {
		x, sign := api.Expr{Kind: kind}, " "+string("+-*/%"[kind-api.Add])+" "
		is(t, x, "("+sign+")", false, 1, 0)
		is(t, with(x, num(1)), "(1"+sign+")", false, 2, 0)
		is(t, with(x, num(1), num(2), node(3)), "(1"+sign+"2)", false, 4, 3)
		is(t, with(x, num(1), num(2), api.Expr{}), "(1"+sign+"2)", false, 3, 0)
		is(t, with(x, api.Expr{}, num(2)), "("+sign+"2)", false, 2, 0)
		is(t, with(x, num(1), api.Expr{}), "(1"+sign+")", false, 2, 0)
		is(t, with(x, api.Expr{}, api.Expr{}), "("+sign+")", false, 1, 0)
		is(t, with(x, num(1), with(x, num(2), with(x, num(3), num(-4)))), "(1"+sign+"(2"+sign+"(3"+sign+"-4)))", false, 7, 0)
		is(t, with(x, with(x, with(x, api.Expr{N: 1}, num(3)), num(2)), num(1)), "((("+sign+"3)"+sign+"2)"+sign+"1)", false, 6, 0)
	}
}

// P20.2: Most is of vals and nodes, and of those above 0, wherever they stand.
func TestMost(t *testing.T) {
	for want, x := range map[int]api.Expr{
		0: two(api.Add, num(9), neg(two(api.Sub, val(0), node(0)))),
		1: two(api.Add, num(9), neg(two(api.Sub, val(1), node(0)))),
		2: two(api.Add, num(9), neg(two(api.Sub, val(0), node(2)))),
		3: two(api.Add, val(3), neg(two(api.Sub, val(2), node(1)))),
		4: two(api.Add, val(-5), neg(two(api.Sub, val(-6), node(4)))),
		5: two(api.Mul, two(api.Mul, node(5), val(4)), two(api.Mul, val(3), node(2))),
	} {
		if got := expr.Most(x); got != want {
			t.Errorf("of %s Most tells %d, want %d", expr.Show(x), got, want)
		}
	}
	if got := expr.Most(two(api.Add, val(-5), neg(node(-6)))); got != 0 {
		t.Errorf("Most tells %d", got)
	}
	x := neg(num(0))
	x.N = 8
	if got := expr.Most(with(num(9), x, val(7))); got != 7 {
		t.Errorf("Most tells %d", got)
	}
}

// P20.2: expressions of many levels, more than any text tells, and of many kids.
func TestManyLevels(t *testing.T) {
	const levels = 1<<16 - 2
	for _, c := range []struct {
		around        func(x api.Expr) api.Expr
		ahead, behind string
		more          int
	}{
		{neg, "(-", ")", 1},
		{func(x api.Expr) api.Expr { return two(api.Sub, x, node(2)) }, "(", " - @2)", 2},
		{func(x api.Expr) api.Expr { return two(api.Sub, node(2), x) }, "(@2 - ", ")", 2},
	} {
		x, wrong := val(1), val(-1)
		for range levels {
			x, wrong = c.around(x), c.around(wrong)
		}
		text := strings.Repeat(c.ahead, levels) + "$1" + strings.Repeat(c.behind, levels)
		if expr.Show(x) != text || !expr.Right(x) || expr.Size(x) != 1+levels*c.more || expr.Most(x) != c.more {
			t.Errorf("of many times %s%s Show tells %s, Right %v, Size %d, Most %d", c.ahead, c.behind, quote(expr.Show(x)), expr.Right(x), expr.Size(x), expr.Most(x))
		}
		if expr.Right(wrong) {
			t.Errorf("many times %s%s is right, though what lies lowest is not", c.ahead, c.behind)
		}
	}
	wide := with(neg(num(1)), make([]api.Expr, 1<<20)...)
	for i := range wide.Kids {
		wide.Kids[i] = val(i)
	}
	is(t, wide, "(-$0)", false, 1<<20+1, 1<<20-1)
}

// R5, and the language's seventh rule: no answer shares a list with another one, nor two lists of one.
func TestAnswersAreApart(t *testing.T) {
	for _, s := range []string{"-1", "1+1", "(1-1)*(1-1)", "-1--1", apart} {
		first, _, _ := expr.Read(s)
		second, _, _ := expr.Read(s)
		whole := deepCopy(second)
		spoil(&first)
		if !same(second, whole) {
			t.Errorf("%s has become %+v", quote(s), second)
		}
		reads(t, s, whole)
	}
	x, _, _ := expr.Read("(1-1)*(1-1)")
	spoil(&x.Kids[0])
	if !same(x.Kids[1], two(api.Sub, num(1), num(1))) {
		t.Errorf("the second kid has become %+v", x.Kids[1])
	}
}

// spoil changes all of an expression.
func spoil(x *api.Expr) {
	for i := range x.Kids {
		spoil(&x.Kids[i])
	}
	x.Kind, x.N = x.Kind+1, x.N+1
}

// R6: what Read tells hangs on its text alone, whatever fails beside it.
func TestReadBesideOthers(t *testing.T) {
	var all sync.WaitGroup
	for i := range 8 {
		all.Go(func() {
			for range 200 {
				for k := range 4 {
					switch (i + k) % 4 {
					case 0:
						refusesQuietly(t, "1+", api.ErrExpr, 2)
					case 1:
						refusesQuietly(t, strings.Repeat("-", 30), api.ErrDeep, 20)
					case 2:
						refusesQuietly(t, strings.Repeat("-", 300), api.ErrLong, 0)
					default:
						if x, e, at := expr.Read(apart); e != api.OK || at != 0 || !same(x, apartAs) {
							t.Errorf("Read tells %+v, %d at %d", x, e, at)
						}
					}
				}
			}
		})
	}
	all.Wait()
}

// refusesQuietly is refuses for goroutines, which may not end the test.
func refusesQuietly(t *testing.T, s string, want api.Errno, place int) {
	if x, e, at := expr.Read(s); e != want || at != place || !same(x, api.Expr{}) {
		t.Errorf("of %s Read tells %+v, %d at %d, want %d at %d", quote(s), x, e, at, want, place)
	}
}
