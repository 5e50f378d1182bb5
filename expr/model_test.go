package expr_test

import (
	"fmt"
	"math"
	"math/rand"
	"slices"
	"strconv"
	"strings"
	"testing"

	"tronage/api"
	"tronage/expr"
)

// There are two models of Read. The one of short texts tells by all ways to split a text which expressions it is, as the chapter's grammar has it; a text is refused behind its longest beginning with which an expression's text begins. The one of all texts goes through the bytes one by one, and keeps in lists what is open.

// spaces are the bytes that may stand anywhere.
const spaces = " \t\n\r"

// kinds are the kinds of signs between parts.
var kinds = map[byte]int{'+': api.Add, '-': api.Sub, '*': api.Mul, '/': api.Div, '%': api.Mod}

// splits is the model of short texts: what it found out of sums, products and factors, by their texts.
type splits map[string]map[string][]api.Expr

// of are all expressions that a text is, as a part of a kind.
func (m splits) of(part, s string) []api.Expr {
	s = strings.Trim(s, spaces)
	if s == "" {
		return nil
	}
	l, ok := m[part][s]
	if !ok {
		switch part {
		case "sum":
			l = append(m.of("product", s), m.between("sum", "+-", "product", s)...)
		case "product":
			l = append(m.factor(s), m.between("product", "*/%", "factor", s)...)
		default:
			l = m.factor(s)
		}
		if m[part] == nil {
			m[part] = map[string][]api.Expr{}
		}
		m[part][s] = l
	}
	return l
}

// between are all expressions of two parts with a sign between.
func (m splits) between(left, signs, right, s string) []api.Expr {
	var l []api.Expr
	for i := range len(s) {
		if strings.IndexByte(signs, s[i]) < 0 {
			continue
		}
		for _, a := range m.of(left, s[:i]) {
			for _, b := range m.of(right, s[i+1:]) {
				l = append(l, two(kinds[s[i]], a, b))
			}
		}
	}
	return l
}

// factor are all expressions that a text is as a factor.
func (m splits) factor(s string) []api.Expr {
	if n, ok := number(s); ok {
		return []api.Expr{num(n)}
	}
	var l []api.Expr
	switch behind := s[1:]; s[0] {
	case '-':
		for _, x := range m.of("factor", behind) {
			l = append(l, neg(x))
		}
	case '(':
		if strings.HasSuffix(behind, ")") {
			return m.of("sum", behind[:len(behind)-1])
		}
	case '$', '@':
		if n, ok := number(behind); ok {
			return []api.Expr{{Kind: map[byte]int{'$': api.Val, '@': api.Node}[s[0]], N: n}}
		}
	}
	return l
}

// number is the number that a text is.
func number(s string) (int, bool) {
	if s == "" || len(s) > 18 || strings.Trim(s, "0123456789") != "" {
		return 0, false
	}
	n := 0
	for i := range len(s) {
		n = 10*n + int(s[i]-'0')
	}
	return n, true
}

// blank tells whether a text is of spaces alone.
func blank(s string) bool { return strings.Trim(s, spaces) == "" }

// goesOn tells whether an expression's text begins with a text: a part, or none, and closing brackets make it one.
func (m splits) goesOn(s string) bool {
	for _, part := range []string{"", "1"} {
		for n := range strings.Count(s, "(") + 1 {
			if len(m.of("sum", s+part+strings.Repeat(")", n))) > 0 {
				return true
			}
		}
	}
	return blank(s)
}

// P20.1: all texts of up to so many of some bytes that go on as an expression, and such as do up to their last byte, by themselves and with more behind.
func TestModelOfShortTexts(t *testing.T) {
	for _, c := range []struct {
		bytes string
		most  int
	}{{"1-( )", 8}, {"1$*-)( ", 7}, {"12+*/()", 6}, {"01@%-+( )\n", 5}, {"7$@+-*/%()\t\r", 5}} {
		m := splits{}
		whole, broken, refused := 0, 0, 0
		todo := []string{""}
		for len(todo) > 0 {
			s := todo[len(todo)-1]
			todo = todo[:len(todo)-1]
			l := m.of("sum", s)
			switch {
			case blank(s):
				reads(t, s, api.Expr{})
			case len(l) == 1:
				reads(t, s, l[0])
				whole++
			case len(l) > 1:
				t.Fatalf("%s is %d expressions", quote(s), len(l))
			default:
				refuses(t, s, api.ErrExpr, len(s))
				broken++
			}
			if len(s) == c.most {
				continue
			}
			for i := range len(c.bytes) {
				if next := s + c.bytes[i:i+1]; m.goesOn(next) {
					todo = append(todo, next)
				} else {
					for _, behind := range []string{"", "1", ")", " ", "+1", "$", "((((", strings.Repeat("-", 30)} {
						refuses(t, next+behind, api.ErrExpr, len(s))
					}
					refused++
				}
			}
		}
		if whole < 300 || broken < 300 || refused < 3*whole/2 {
			t.Errorf("of %q %d texts are expressions, %d beginnings of some, %d no more", c.bytes, whole, broken, refused)
		}
	}
}

// bytewise is the model of all texts: what is put together already, and the signs that wait: brackets, - ahead of factors (as n), and signs between parts.
type bytewise struct {
	parts []api.Expr
	signs []byte
}

// rank tells how strongly a sign holds what stands beside it.
func rank(sign byte) int {
	switch sign {
	case 'n':
		return 3
	case '*', '/', '%':
		return 2
	case '+', '-':
		return 1
	}
	return 0
}

// deep is how deep a factor is that begins now.
func (m *bytewise) deep() int {
	return 1 + strings.Count(string(m.signs), "(") + strings.Count(string(m.signs), "n")
}

// settle puts together what waiting signs of a rank, and of higher ones, hold.
func (m *bytewise) settle(least int) {
	for len(m.signs) > 0 && rank(m.signs[len(m.signs)-1]) >= least {
		sign, top := m.signs[len(m.signs)-1], len(m.parts)-1
		m.signs = m.signs[:len(m.signs)-1]
		if sign == 'n' {
			m.parts[top] = neg(m.parts[top])
		} else {
			m.parts = append(m.parts[:top-1], two(kinds[sign], m.parts[top-1], m.parts[top]))
		}
	}
}

// digitsFrom is how many digits stand in a text from a place on.
func digitsFrom(s string, at int) int {
	return len(s[at:]) - len(strings.TrimLeft(s[at:], "0123456789"))
}

// begin takes what stands at a place where a factor must begin: how many bytes, and whether all of it is a part; what is wrong, and behind how many bytes.
func (m *bytewise) begin(s string, at int) (size int, part bool, e api.Errno) {
	c := s[at]
	if strings.IndexByte("0123456789-($@", c) < 0 {
		return 0, false, api.ErrExpr
	}
	if m.deep() > 20 {
		return 0, false, api.ErrDeep
	}
	switch c {
	case '-':
		m.signs = append(m.signs, 'n')
		return 1, false, api.OK
	case '(':
		m.signs = append(m.signs, '(')
		return 1, false, api.OK
	}
	kind, ahead := api.Num, 0
	if c == '$' {
		kind, ahead = api.Val, 1
	} else if c == '@' {
		kind, ahead = api.Node, 1
	}
	n := digitsFrom(s, at+ahead)
	if n == 0 || n > 18 {
		return ahead + min(n, 18), false, api.ErrExpr
	}
	value, _ := strconv.Atoi(s[at+ahead : at+ahead+n])
	m.parts = append(m.parts, api.Expr{Kind: kind, N: value})
	m.settle(3)
	return ahead + n, true, api.OK
}

// behind takes a byte that stands behind a part: whether one stands there yet, and whether the byte may be.
func (m *bytewise) behind(c byte) (part, ok bool) {
	switch {
	case rank(c) > 0 && c != 'n':
		m.settle(rank(c))
		m.signs = append(m.signs, c)
		return false, true
	case c == ')':
		m.settle(1)
		if len(m.signs) == 0 {
			return false, false
		}
		m.signs = m.signs[:len(m.signs)-1]
		m.settle(3)
		return true, true
	}
	return false, false
}

// readModel is the model of Read.
func readModel(s string) (api.Expr, api.Errno, int) {
	if len(s) > 200 {
		return api.Expr{}, api.ErrLong, 0
	}
	m, part := &bytewise{}, false
	for at := 0; at < len(s); {
		if strings.IndexByte(spaces, s[at]) >= 0 {
			at++
			continue
		}
		if !part {
			size, is, e := m.begin(s, at)
			if at += size; e != api.OK {
				return api.Expr{}, e, at
			}
			part = is
			continue
		}
		is, ok := m.behind(s[at])
		if !ok {
			return api.Expr{}, api.ErrExpr, at
		}
		part = is
		at++
	}
	if len(m.parts)+len(m.signs) == 0 {
		return api.Expr{}, api.OK, 0
	}
	if part {
		m.settle(1)
	}
	if !part || len(m.signs) > 0 { // brackets alone wait then
		return api.Expr{}, api.ErrExpr, len(s)
	}
	return m.parts[0], api.OK, 0
}

// agrees fails the test if Read tells anything else of a text than the model, and tells what that is.
func agrees(t *testing.T, s string) api.Errno {
	t.Helper()
	x, e, at := readModel(s)
	if e == api.OK {
		reads(t, s, x)
	} else {
		refuses(t, s, e, at)
	}
	return e
}

// pick is a byte of a text by chance.
func pick(r *rand.Rand, s string) byte { return s[r.Intn(len(s))] }

// writer writes an expression's text by chance, and tells which expression it is. One that is narrow writes few parts beside one another, and many in one another.
type writer struct {
	r              *rand.Rand
	text           []byte
	spaced, narrow bool
}

// writes is a writer by chance, and the expression that it has written, of no more than some parts.
func writes(r *rand.Rand) (*writer, api.Expr) {
	w := &writer{r: r, spaced: r.Intn(2) == 0, narrow: r.Intn(4) == 0}
	return w, w.sum([]int{1, 3, 10, 30, 60}[r.Intn(5)])
}

// put writes a part, at times with spaces ahead.
func (w *writer) put(s string) {
	for w.spaced && w.r.Intn(3) == 0 {
		w.text = append(w.text, pick(w.r, spaces))
	}
	w.text = append(w.text, s...)
}

// chain writes parts with signs between.
func (w *writer) chain(signs string, part func(budget int) api.Expr, budget int) api.Expr {
	n := 1
	for budget > n && w.r.Intn(3) > 0 && (!w.narrow || w.r.Intn(20) == 0) {
		n++
	}
	x := part(budget / n)
	for range n - 1 {
		sign := pick(w.r, signs)
		w.put(string(sign))
		x = two(kinds[sign], x, part(budget/n))
	}
	return x
}

// sum, product and factor write such ones, of no more than some parts.
func (w *writer) sum(budget int) api.Expr     { return w.chain("+-", w.product, budget) }
func (w *writer) product(budget int) api.Expr { return w.chain("*/%", w.factor, budget) }
func (w *writer) factor(budget int) api.Expr {
	k := w.r.Intn(5)
	if w.narrow {
		k = w.r.Intn(3)
	}
	switch {
	case budget > 1 && k < 2:
		w.put("(")
		x := w.sum(budget - 1)
		w.put(")")
		return x
	case budget > 0 && k == 2:
		w.put("-")
		return neg(w.factor(budget - 1))
	}
	kind := 1 + w.r.Intn(3)
	s := fmt.Sprint(w.r.Intn([]int{10, 1000, 1e18}[w.r.Intn(3)]))
	if w.r.Intn(4) == 0 {
		s = strings.Repeat("0", w.r.Intn(19-len(s))) + s
	}
	w.put([]string{"", "$", "@"}[kind-1] + s)
	n, _ := number(s)
	return api.Expr{Kind: kind, N: n}
}

// P20.1: texts that are written by the grammar by chance are what they are written of, in the models, too.
func TestReadWritten(t *testing.T) {
	r := rand.New(rand.NewSource(20))
	right, deep, long := 0, 0, 0
	for range 30000 {
		w, x := writes(r)
		s := string(w.text)
		switch e := agrees(t, s); e {
		case api.OK:
			reads(t, s, x)
			right++
		case api.ErrDeep:
			deep++
		case api.ErrLong:
			long++
		default:
			t.Fatalf("%s is told %d", quote(s), e)
		}
	}
	if min(right/10, deep, long) < 100 {
		t.Errorf("%d texts are right, %d too deep, %d too long", right, deep, long)
	}
}

// spoiled is a text with some bytes put in, taken away, or changed by chance.
func spoiled(r *rand.Rand, s string) string {
	for range 1 + r.Intn(3) {
		at := r.Intn(len(s) + 1)
		to := min(len(s), at+r.Intn(3))
		c := string([]byte{pick(r, "0123456789+-*/%$@()()-- \t\n\r\v\x00x\x80\xff")})
		if r.Intn(10) == 0 {
			c = strings.Repeat(c, 1+r.Intn(30))
		}
		if r.Intn(3) == 0 {
			c = ""
		}
		s = s[:at] + c + s[to:]
	}
	return s
}

// P20.1: texts by chance, most of them nearly right, against the model of all texts.
func TestModelByChance(t *testing.T) {
	r := rand.New(rand.NewSource(2))
	told := map[api.Errno]int{}
	for range 100000 {
		w, _ := writes(r)
		told[agrees(t, spoiled(r, string(w.text)))]++
	}
	for range 100000 {
		b := make([]byte, r.Intn(60))
		for i := range b {
			b[i] = pick(r, "0123456789+-*/%$@((((----)) \n")
		}
		told[agrees(t, string(b))]++
	}
	for range 20000 {
		b := make([]byte, r.Intn(12))
		for i := range b {
			b[i] = byte(r.Intn(256))
		}
		told[agrees(t, string(b))]++
	}
	for _, e := range []api.Errno{api.OK, api.ErrExpr, api.ErrDeep, api.ErrLong} {
		if told[e] < 100 {
			t.Errorf("just %d texts are told %d", told[e], e)
		}
	}
}

// showModel is the model of Show, of expressions that can be.
func showModel(x api.Expr) string {
	switch x.Kind {
	case api.Num:
		return fmt.Sprint(x.N)
	case api.Val:
		return fmt.Sprint("$", x.N)
	case api.Node:
		return fmt.Sprint("@", x.N)
	case api.Neg:
		return "(-" + showModel(x.Kids[0]) + ")"
	}
	for sign, kind := range kinds {
		if kind == x.Kind {
			return fmt.Sprintf("(%s %c %s)", showModel(x.Kids[0]), sign, showModel(x.Kids[1]))
		}
	}
	return ""
}

// below are an expression and all below it.
func below(x api.Expr) []api.Expr {
	l := []api.Expr{x}
	for i := 0; i < len(l); i++ {
		l = append(l, l[i].Kids...)
	}
	return l
}

// sizeModel is the model of Size: of one of the Kind 0 nothing counts, nor what lies below it.
func sizeModel(x api.Expr) int {
	l, n := []api.Expr{x}, 0
	for i := 0; i < len(l); i++ {
		if l[i].Kind != 0 {
			l = append(l, l[i].Kids...)
			n++
		}
	}
	return n
}

// mostModel is the model of Most.
func mostModel(x api.Expr) int {
	l := []int{0}
	for _, y := range below(x) {
		if y.Kind == api.Val || y.Kind == api.Node {
			l = append(l, y.N)
		}
	}
	return slices.Max(l)
}

// rightModel is the model of Right, of what is neither too long nor too deep to be read: it can be just if it reads back as it was.
func rightModel(x api.Expr) bool {
	y, e, _ := readModel(expr.Show(x))
	return e == api.OK && same(x, y)
}

// judged fails the test if anything else than the models' is told of an expression, which may be wrong, and tells whether it can be.
func judged(t *testing.T, x api.Expr) bool {
	t.Helper()
	right := rightModel(x)
	is(t, x, expr.Show(x), right, sizeModel(x), mostModel(x))
	if right && expr.Show(x) != showModel(x) {
		t.Fatalf("of %+v Show tells %s, want %s", x, expr.Show(x), showModel(x))
	}
	return right
}

// lists are all lists of up to so many of some expressions.
func lists(of []api.Expr, most int) [][]api.Expr {
	all := [][]api.Expr{nil}
	for i := 0; i < len(all); i++ {
		for _, x := range of {
			if len(all[i]) < most {
				all = append(all, append(slices.Clone(all[i]), x))
			}
		}
	}
	return all
}

// leaves are expressions without kids, right ones and wrong ones.
func leaves() []api.Expr {
	var l []api.Expr
	for _, kind := range []int{-1, 0, 1, 2, 3, 4, 5, 6, 7, 8, 9, 10} {
		for _, n := range []int{math.MinInt, -1, 0, 1, 6, 999999999999999999, 1000000000000000000} {
			l = append(l, api.Expr{Kind: kind, N: n})
		}
	}
	return l
}

// P20.2, P20.3: all expressions of kids without kids, and by chance of these.
func TestModelOfExpressions(t *testing.T) {
	var all, right []api.Expr
	for _, kids := range lists([]api.Expr{{}, num(0), val(6), node(7), neg(num(1)), two(api.Sub, val(8), num(-1)), {Kind: 12}}, 3) {
		for _, x := range leaves() {
			x = with(x, kids...)
			if all = append(all, x); judged(t, x) {
				right = append(right, x)
			}
		}
	}
	r := rand.New(rand.NewSource(202))
	n := 0
	for range 100000 {
		from := [][]api.Expr{all, right, right, right}[r.Intn(4)]
		x := api.Expr{Kind: 4 + r.Intn(6)}
		for range []int{1, 1, 2, 2, 2, 2, r.Intn(5)}[r.Intn(7)] {
			x.Kids = append(x.Kids, deepCopy(from[r.Intn(len(from))]))
		}
		if judged(t, x) {
			n++
		}
	}
	if len(all) < 30000 || len(right) < 50 || n < 10000 || n > 90000 {
		t.Errorf("of %d expressions %d are right, and then %d", len(all), len(right), n)
	}
}

// some is an expression that can be, by chance, of no more than so many levels.
func some(r *rand.Rand, levels int) api.Expr {
	switch k := r.Intn(10); {
	case levels > 1 && k < 5:
		return neg(some(r, levels-1))
	case levels > 1 && k < 8:
		return two(api.Add+r.Intn(5), some(r, 1+r.Intn(levels-1)), some(r, levels-1))
	case levels > 1 && k == 8:
		return two(api.Add+r.Intn(5), some(r, levels-1), num(r.Intn(10)))
	}
	return api.Expr{Kind: 1 + r.Intn(3), N: r.Intn([]int{10, 1e18}[r.Intn(2)])}
}

// shownDepth is how deep factors are in what is shown of an expression.
func shownDepth(x api.Expr) int {
	switch len(x.Kids) {
	case 0:
		return 1
	case 1:
		return 2 + shownDepth(x.Kids[0]) // a bracket's factor, and one of a -
	}
	return 1 + max(shownDepth(x.Kids[0]), shownDepth(x.Kids[1]))
}

// P20.3: what is shown reads back as it was, if it is not too long, nor too deep.
func TestShownReadsBack(t *testing.T) {
	r := rand.New(rand.NewSource(203))
	told := map[api.Errno]int{}
	for i := range 30000 {
		x := some(r, 1+i%25)
		s := showModel(x)
		is(t, x, s, true, sizeModel(x), mostModel(x))
		want := api.OK
		switch {
		case len(s) > 200:
			want = api.ErrLong
		case shownDepth(x) > 20:
			want = api.ErrDeep
		default:
			reads(t, s, x)
		}
		if e := agrees(t, s); e != want {
			t.Fatalf("%s is told %d, want %d", quote(s), e, want)
		}
		told[want]++
	}
	for _, e := range []api.Errno{api.OK, api.ErrDeep, api.ErrLong} {
		if told[e] < 300 {
			t.Errorf("just %d expressions' texts are told %d", told[e], e)
		}
	}
}
