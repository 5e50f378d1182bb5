package pattern_test

import (
	"math/rand"
	"slices"
	"strings"
	"testing"

	"tronage/api"
	"tronage/pattern"
)

// The model tells of a pattern which texts it is, byte by byte; all else follows: what is matched is the longest one of them that stands there, patterns meet if one text of all is both, and an example is the least one byte that is one, if the pattern has no Text.

// isModel is the model of Is.
func isModel(p api.Pat, s string) bool {
	if p.Text != "" {
		return s == p.Text
	}
	for i := range len(s) {
		if strings.IndexByte(p.Set, s[i]) < 0 {
			return false
		}
	}
	return len(s) == 1 || len(s) > 1 && p.Many
}

// lenModel is the model of Len.
func lenModel(p api.Pat, s string, at int) int {
	for n := len(s) - at; n > 0; n-- {
		if isModel(p, s[at:at+n]) {
			return n
		}
	}
	return 0
}

// meetsModel is the model of Meets; all texts that may be both, but those that are longer for nothing, are among these.
func meetsModel(a, b api.Pat, texts []string) bool {
	return slices.ContainsFunc(texts, func(s string) bool { return isModel(a, s) && isModel(b, s) })
}

// exampleModel is the model of Example.
func exampleModel(p api.Pat) string {
	if p.Text != "" {
		return p.Text
	}
	for b := range 256 {
		if s := string([]byte{byte(b)}); isModel(p, s) {
			return s
		}
	}
	return ""
}

// words are all texts of up to n of some bytes.
func words(bytes string, n int) []string {
	all := []string{""}
	for i := 0; i < len(all); i++ {
		for k := range len(bytes) {
			if len(all[i]) < n {
				all = append(all, all[i]+bytes[k:k+1])
			}
		}
	}
	return all
}

// patterns are all of some texts and sets, Many and not.
func patterns(texts, sets []string) []api.Pat {
	var l []api.Pat
	for _, s := range texts {
		for _, set := range sets {
			l = append(l, api.Pat{Text: s, Set: set}, api.Pat{Text: s, Set: set, Many: true})
		}
	}
	return l
}

// agrees fails the test if anything else than the model's is told of a pattern in a text, or if what is matched is not the pattern.
func agrees(t *testing.T, p api.Pat, s string) {
	t.Helper()
	is(t, p, s, isModel(p, s))
	var want []int
	for at := range len(s) {
		n := lenModel(p, s, at)
		want = append(want, n)
		is(t, p, s[at:at+n], n > 0)
	}
	lens(t, p, s, want...)
}

// goesOn fails the test if what a pattern is is not matched ahead of another text just as long as it goes on.
func goesOn(t *testing.T, p api.Pat, s, behind string) {
	t.Helper()
	n := pattern.Len(p, s+behind, 0)
	if !pattern.Is(p, s) || n < len(s) || n > len(s) && (p.Text != "" || !p.Many) {
		t.Fatalf("of %s in %s ahead of %s Len tells %d", show(p), quote(s), quote(behind), n)
	}
	if more := len(s) + pattern.Len(p, behind, 0); p.Text == "" && p.Many && n != more {
		t.Fatalf("of %s in %s ahead of %s Len tells %d, want %d", show(p), quote(s), quote(behind), n, more)
	}
}

// P16.1 to P16.3: all patterns of short texts and sets, in all short texts.
func TestModelOfShortOnes(t *testing.T) {
	texts := words("a\xc3\xff", 5)
	all := patterns(words("a\xc3", 3), words("a\xc3\xff", 3))
	n, of := 0, 0
	for _, p := range all {
		example(t, p, exampleModel(p))
		for _, s := range texts {
			agrees(t, p, s)
			if isModel(p, s) {
				n++
				for _, behind := range []string{"", "a", "\xc3", "\xff", "b", s, "ba", "aab" + s} {
					goesOn(t, p, s, behind)
				}
			}
			of++
		}
	}
	if n < 2000 || of < 10*n {
		t.Errorf("of %d texts and patterns just %d go together", of, n)
	}
}

// P16.2, P16.3: all pairs of patterns of short texts and sets.
func TestModelOfPairs(t *testing.T) {
	texts := words("ab\xff", 3)
	texts = append(texts, words("c", 2)...)
	all := patterns(append(words("ab", 2), "aba", "c", "bc"), append(words("ab\xff", 1), "ab", "ba", "b\xff", "aa", "c", "\xffba", "aca"))
	n := 0
	for _, a := range all {
		for _, b := range all {
			want := meetsModel(a, b, append(texts, a.Text, b.Text))
			meets(t, a, b, want)
			if want {
				n++
			}
		}
	}
	if n < 4000 || n > len(all)*len(all)/2 {
		t.Errorf("of %d patterns just %d pairs meet", len(all), n)
	}
}

// some are bytes by chance: so many at most, of the first ones, or of all.
func some(r *rand.Rand, most, first int) string {
	b := make([]byte, r.Intn(most+1))
	for i := range b {
		b[i] = byte(255 - r.Intn(first))
	}
	return string(b)
}

// by is a pattern by chance.
func by(r *rand.Rand, first int) api.Pat {
	p := api.Pat{Many: r.Intn(2) == 0, Set: some(r, 2*first, first)}
	if r.Intn(3) == 0 {
		p.Text = some(r, 4, first)
	}
	return p
}

// P16.1 to P16.3: patterns, and texts, by chance.
func TestModelByChance(t *testing.T) {
	r := rand.New(rand.NewSource(16))
	met, apart, looks := 0, 0, 0
	for i := range 20000 {
		first := []int{2, 5, 20, 256}[i%4]
		a, b := by(r, first), by(r, first)
		s := some(r, 30, first)
		agrees(t, a, s+a.Text+b.Text+s)
		example(t, a, exampleModel(a))
		texts := []string{a.Text, b.Text}
		for x := range 256 {
			texts = append(texts, string([]byte{byte(x)}))
		}
		want := meetsModel(a, b, texts)
		meets(t, a, b, want)
		if want {
			met++
		} else {
			apart++
		}
		if n := lenModel(a, s, 0); n > 0 {
			looks++
			goesOn(t, a, s[:n], s[n:])
			goesOn(t, a, s[:n], s)
		}
	}
	if min(met, apart, looks) < 3000 {
		t.Errorf("just %d pairs meet, %d do not, %d texts begin with a pattern", met, apart, looks)
	}
}
