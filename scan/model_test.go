package scan_test

import (
	"math/rand"
	"slices"
	"strings"
	"testing"

	"tronage/api"
	"tronage/pattern"
	"tronage/scan"
)

// The model takes what stands at a place from the longest piece on, byte by byte shorter, and asks of each piece which pattern it is, tokens ahead of skips, from the first declared one on.

// looks is whether a text is a pattern.
func looks(p api.Pat, s string) bool {
	if p.Text != "" {
		return s == p.Text
	}
	for i := range len(s) {
		if strings.IndexByte(p.Set, s[i]) < 0 {
			return false
		}
	}
	return len(s) == 1 || len(s) > 1 && p.Many
}

// kind is which terminal a piece is; 0, true: it is a skip; false: it is nothing.
func kind(g api.Grammar, s string) (int, bool) {
	if i := slices.IndexFunc(g.Tokens, func(x api.Token) bool { return looks(x.Pat, s) }); i >= 0 {
		return i + 1, true
	}
	return 0, slices.ContainsFunc(g.Skips, func(p api.Pat) bool { return looks(p, s) })
}

// next is the model of what stands at a place: its terminal, how long it is; 0 long: nothing.
func next(g api.Grammar, s string) (int, int) {
	for n := len(s); n > 0; n-- {
		if term, ok := kind(g, s[:n]); ok {
			return term, n
		}
	}
	return 0, 0
}

// steps is the model of a scanner's steps, up to the end, or with the error.
func steps(g api.Grammar, s string) ([]step, api.Errno) {
	var l []step
	at, skipped := 0, 0
	for at < len(s) {
		term, n := next(g, s[at:])
		switch {
		case n == 0:
			return append(l, step{0, at, at, skipped}), api.ErrToken
		case term == 0:
			skipped++
		default:
			l = append(l, step{term, at, at + n, skipped})
		}
		at += n
	}
	return append(l, step{0, at, at, skipped}), api.OK
}

// longest is how many bytes of a text the pattern that matches most matches at a place, as layer 16 has it.
func longest(g api.Grammar, s string, at int) int {
	most := 0
	for _, x := range g.Tokens {
		most = max(most, pattern.Len(x.Pat, s, at))
	}
	for _, p := range g.Skips {
		most = max(most, pattern.Len(p, s, at))
	}
	return most
}

// skippedBetween is how many skips a piece between tokens is, each the longest one at its place of the whole text; -1, if it is none.
func skippedBetween(g api.Grammar, s string, from, to int) int {
	n := 0
	for from < to {
		size := longest(g, s, from)
		if size == 0 || !slices.ContainsFunc(g.Skips, func(p api.Pat) bool { return pattern.Len(p, s, from) == size }) {
			return -1
		}
		from += size
		n++
	}
	if from > to {
		return -1
	}
	return n
}

// whole fails the test if tokens, and what is skipped between them, are not all of a text ahead of what is told last, in order; or if a token is not matched by its pattern, or another one matches more.
func whole(t *testing.T, g api.Grammar, s string) {
	t.Helper()
	l, e := scan.All(g, s)
	c := scan.New(g, s)
	at, skipped := 0, 0
	for i, x := range l {
		between := skippedBetween(g, s, at, x.From)
		if x.From < at || between < 0 {
			t.Fatalf("of %s in %s the token %d, %v, comes behind the place %d", show(g), quote(s), i, x, at)
		}
		skipped += between
		c.Next()
		stands(t, c, x.To, skipped)
		at = x.To
		if x.Term == 0 {
			if i != len(l)-1 || x.To != x.From || (e == api.OK) != (at == len(s)) || e != api.OK && longest(g, s, at) != 0 {
				t.Fatalf("of %s in %s All tells %v, %v", show(g), quote(s), l, e)
			}
			continue
		}
		size := longest(g, s, x.From)
		if !pattern.Is(g.Tokens[x.Term-1].Pat, scan.Text(s, x)) || x.To-x.From != size {
			t.Fatalf("of %s in %s the token %d is %v; %d bytes are matched there", show(g), quote(s), i, x, size)
		}
		for _, y := range g.Tokens[:x.Term-1] {
			if pattern.Len(y.Pat, s, x.From) == size {
				t.Fatalf("of %s in %s the token %d is %v, not %s", show(g), quote(s), i, x, y.Name)
			}
		}
	}
	if x := l[len(l)-1]; x.Term != 0 {
		t.Fatalf("of %s in %s All tells no end: %v", show(g), quote(s), l)
	}
}

// agrees fails the test if anything else than the model's is told of a grammar and a text, and tells the model's.
func agrees(t *testing.T, g api.Grammar, s string) ([]step, api.Errno) {
	t.Helper()
	want, e := steps(g, s)
	goes(t, g, s, e, want...)
	whole(t, g, s)
	return want, e
}

// words are all texts of up to n of some bytes.
func words(bytes string, n int) []string {
	all := []string{""}
	for i := 0; i < len(all); i++ {
		for k := range len(bytes) {
			if len(all[i]) < n {
				all = append(all, all[i]+bytes[k:k+1])
			}
		}
	}
	return all
}

// lists are all lists of up to two of some patterns.
func lists(l []api.Pat) [][]api.Pat {
	all := [][]api.Pat{nil}
	for _, p := range l {
		all = append(all, []api.Pat{p})
		for _, q := range l {
			all = append(all, []api.Pat{p, q})
		}
	}
	return all
}

// P17.1 to P17.3: all grammars of up to two tokens and two skips, of some patterns, in all short texts.
func TestModelOfShortOnes(t *testing.T) {
	texts := words("a\xc3", 4)
	all := lists([]api.Pat{{}, text("a"), text("a\xc3"), text("\xc3a\xc3"), one("a"), one("a\xc3"), many("\xc3"), many("\xc3a")})
	ended, refused, skipped := 0, 0, 0
	for _, l := range all {
		for _, skips := range all {
			g := with(tokens(l...), skips...)
			for _, s := range texts {
				want, e := agrees(t, g, s)
				if e == api.OK {
					ended++
				} else {
					refused++
				}
				if last := want[len(want)-1]; len(want) > 1 && last.skipped > 0 {
					skipped++
				}
			}
		}
	}
	if min(ended, refused, skipped) < 10000 {
		t.Errorf("just %d texts come to their end, %d are refused, of %d something is skipped", ended, refused, skipped)
	}
}

// some are bytes by chance: so many at most, of the last ones that there are.
func some(r *rand.Rand, most, of int) string {
	b := make([]byte, r.Intn(most+1))
	for i := range b {
		b[i] = byte(255 - r.Intn(of))
	}
	return string(b)
}

// by are patterns by chance.
func by(r *rand.Rand, most, of int) []api.Pat {
	l := make([]api.Pat, r.Intn(most+1))
	for i := range l {
		l[i] = api.Pat{Many: r.Intn(2) == 0, Set: some(r, of/2+1, of)}
		if r.Intn(2) == 0 {
			l[i].Text = some(r, 5, of)
		}
	}
	return l
}

// made is a text put together of pieces that patterns are, and of others.
func made(r *rand.Rand, g api.Grammar, of int) string {
	var l []api.Pat
	for _, x := range g.Tokens {
		l = append(l, x.Pat)
	}
	l = append(l, g.Skips...)
	s := ""
	for range r.Intn(20) {
		if len(l) == 0 || r.Intn(40) == 0 {
			s += some(r, 3, of)
			continue
		}
		p := l[r.Intn(len(l))]
		s += strings.Repeat(pattern.Example(p), 1+r.Intn(3))
	}
	return s
}

// P17.1 to P17.3: grammars, and texts, by chance.
func TestModelByChance(t *testing.T) {
	r := rand.New(rand.NewSource(17))
	ended, refused, long := 0, 0, 0
	for i := range 12000 {
		of := []int{2, 3, 6, 30, 256}[i%5]
		g := with(tokens(by(r, api.MaxTokens, of)...), by(r, api.MaxSkips, of)...)
		for _, s := range []string{some(r, 30, of), made(r, g, of)} {
			want, e := agrees(t, g, s)
			if e == api.OK && s != "" {
				ended++
			} else if e != api.OK {
				refused++
			}
			if len(want) > 8 {
				long++
			}
		}
	}
	if min(ended, refused, long) < 3000 {
		t.Errorf("just %d texts come to their end, %d are refused, %d have many tokens", ended, refused, long)
	}
}
