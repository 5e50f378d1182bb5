package printer_test

import (
	"fmt"
	"math/rand"
	"strings"
	"testing"

	"tronage/api"
	"tronage/printer"
	"tronage/reader"
)

// The model writes any grammar, whether it can be read or not, by replacements alone. A grammar can be read just if some text is read as it; so just if the model's text is, as that one is right where any is. (That holds as far as the model's text is not too long for being read.)

// inText and inSet are how bytes stand in patterns.
var (
	inText = strings.NewReplacer(`\`, `\\`, `"`, `\"`, "\n", `\n`, "\t", `\t`)
	inSet  = strings.NewReplacer(`\`, `\\`, `]`, `\]`, `-`, `\-`, "\n", `\n`, "\t", `\t`)
)

// patternModel is a pattern's text.
func patternModel(p api.Pat) string {
	many := map[bool]string{true: "+"}[p.Many]
	if p.Text != "" {
		return `"` + inText.Replace(p.Text) + `"`
	}
	return "[" + inSet.Replace(p.Set) + "]" + many
}

// ruleModel is a rule's text.
func ruleModel(r api.Rule) string {
	s := r.Left + " :"
	for _, n := range r.Right {
		s += " " + n
	}
	if r.Prec != "" {
		s += " %prec " + r.Prec
	}
	if r.Action != "" {
		s += fmt.Sprintf(" {%s}", r.Action)
	}
	return s + " ;"
}

// model is a grammar's text.
func model(g api.Grammar) string {
	s := ""
	for _, t := range g.Tokens {
		s += fmt.Sprintf("%%token %s %s\n", t.Name, patternModel(t.Pat))
	}
	for _, p := range g.Skips {
		s += fmt.Sprintf("%%skip %s\n", patternModel(p))
	}
	for _, l := range g.Levels {
		word := map[int]string{1: "left", 2: "right", 3: "nonassoc"}[l.Assoc]
		s += fmt.Sprintf("%%%s %s\n", word, strings.Join(l.Names, " "))
	}
	s += fmt.Sprintf("%%start %s\n%%%%\n", g.Start)
	for _, r := range g.Rules {
		s += ruleModel(r) + "\n"
	}
	return s
}

// agrees fails the test if a grammar's text is not the model's, or if that isn't read as the grammar just if it can be read. It answers whether it can.
func agrees(t *testing.T, g api.Grammar) bool {
	t.Helper()
	text := model(g)
	if len(text) > 4000 {
		t.Fatalf("%q is too long for the model", text)
	}
	back, d := reader.Read(text)
	right := d.Code == api.OK && same(back, g)
	s, e := printer.Print(g)
	if printer.Right(g) != right || right && (s != text || e != api.OK) || !right && (s != "" || e != api.ErrArg) {
		t.Fatalf("Right(%v) = %v, Print tells %q, %d; the model's text %q is read as %v, %v", g, printer.Right(g), s, e, text, back, d)
	}
	for _, r := range g.Rules {
		if r := printer.Rule(r); !strings.Contains(text, r+"\n") {
			t.Fatalf("%q has no %q", text, r)
		}
	}
	return right
}

// words are all of up to n letters.
func words(letters []string, n int) []string {
	all, last := []string{""}, []string{""}
	for range n {
		var longer []string
		for _, w := range last {
			for _, l := range letters {
				longer = append(longer, w+l)
			}
		}
		all, last = append(all, longer...), longer
	}
	return all
}

// each fails the test if the model tells other things of a grammar into which each of some texts is put, or if it can be read with not just so many of them.
func each(t *testing.T, texts []string, right int, put func(*api.Grammar, string)) {
	t.Helper()
	n := 0
	for _, s := range texts {
		if agrees(t, but(func(g *api.Grammar) { put(g, s) })) {
			n++
		}
	}
	if n != right {
		t.Errorf("%d of %d can be read", n, len(texts))
	}
}

// P7.2, P7.3: all short texts as names, at each place that has one.
func TestModelOfNames(t *testing.T) {
	all := words([]string{"a", "Z", "_", "0", " ", "%", "#", "\n", ";", "{", "é"}, 3)
	for _, p := range places {
		right := 3 + 3*4 + 3*4*4
		if p.none {
			right++
		}
		each(t, all, right, p.put)
	}
}

// P7.2, P7.3: all short texts as actions.
func TestModelOfActions(t *testing.T) {
	for i := range 2 {
		put := func(g *api.Grammar, a string) { g.Rules[i].Action = a }
		each(t, words([]string{"{", "}"}, 11), 1+1+2+5+13+34, put) // those that close, up to three deep
		each(t, words([]string{"{", "}", "a", "\n"}, 6), 1+2+5+14+42+132+429, put)
		each(t, words([]string{"{}", "#", `"`, `\`, ";", "%", "}"}, 4), 1+6+36+216+1296, put) // all without a } alone
	}
}

// P7.1, P7.2, P7.3: all short texts as patterns' texts and sets, with many and without.
func TestModelOfPatterns(t *testing.T) {
	all := words([]string{"\t", "\n", "\r", `"`, "-", "[", `\`, "]", "a", "n"}, 3)
	small := words([]string{"-", "a", "b"}, 2)
	n := 0
	put := func(p api.Pat) {
		if s, want := printer.Pattern(p), patternModel(p); s != want {
			t.Fatalf("Pattern(%v) = %q, want %q", p, s, want)
		}
		for _, g := range []api.Grammar{but(func(g *api.Grammar) { g.Tokens[0].Pat = p }), but(func(g *api.Grammar) { g.Skips[0] = p })} {
			if agrees(t, g) {
				n++
			}
		}
	}
	for _, many := range []bool{false, true} {
		for _, s := range all {
			put(api.Pat{Text: s, Many: many})
			put(api.Pat{Set: s, Many: many})
		}
		for _, text := range small {
			for _, set := range small {
				put(api.Pat{Text: text, Set: set, Many: many})
			}
		}
	}
	texts, sets := 10+100+1000, 10+45+120 // of sets those that rise
	if want := 2 * (texts + 2*sets + len(small) - 1 + 2*(3+3)); n != want {
		t.Errorf("%d can be read, not %d", n, want)
	}
}

// chance puts together grammars of parts most of which can be.
type chance struct{ *rand.Rand }

// one is one of some things, the first one mostly.
func one[T any](c chance, l ...T) T { return l[max(0, c.Intn(40*len(l))-39*len(l))] }

// name is a name mostly, of so few that some come twice.
func (c chance) name() string {
	return one(c, string("abcdefghijklmnopqrstuvwxyzABCDEFGHIJKLMNOPQRSTUVWXYZ"[c.Intn(52)])+fmt.Sprint(c.Intn(30)), "left", strings.Repeat("x", 32), strings.Repeat("x", 33), "", "1", "a b")
}

// names are some names.
func (c chance) names(n int) []string {
	var l []string
	for range n {
		l = append(l, c.name())
	}
	return l
}

// bytes are some bytes.
func (c chance) bytes(n int) string {
	b := make([]byte, n)
	for i := range b {
		b[i] = "abc\t\n\"\\-][\x00\xff"[c.Intn(12)]
	}
	return string(b)
}

// pattern is one that can be, mostly.
func (c chance) pattern() api.Pat {
	rising := ""
	for i := 0; i < 256; i += 1 + c.Intn(60) {
		rising += string([]byte{byte(i)})
	}
	return one(c, []api.Pat{{Text: c.bytes(1 + c.Intn(32))}, {Set: rising, Many: c.Intn(2) == 0}}[c.Intn(2)],
		api.Pat{Text: c.bytes(33)}, api.Pat{Set: c.bytes(3)}, api.Pat{Text: "a", Set: "b"}, api.Pat{Text: "a", Many: true}, api.Pat{Many: c.Intn(2) == 0})
}

// action is one that can be, mostly.
func (c chance) action() string {
	return one(c, []string{"", "$1", "{}"}[c.Intn(3)], c.bytes(10), "{{}{{}}}", "{{{{}}}}", "}", strings.Repeat("a", 200), strings.Repeat("a", 201))
}

// grammar is any one.
func (c chance) grammar() api.Grammar {
	g := api.Grammar{Start: c.name()}
	for range one(c, c.Intn(8), 20, 21) {
		g.Tokens = append(g.Tokens, api.Token{Name: c.name(), Pat: c.pattern()})
	}
	for range one(c, c.Intn(3), 4, 5) {
		g.Skips = append(g.Skips, c.pattern())
	}
	for range one(c, c.Intn(5), 10, 11) {
		g.Levels = append(g.Levels, api.Level{Assoc: one(c, 1+c.Intn(3), 0, 4, -1), Names: c.names(one(c, 1+c.Intn(3), 0))})
	}
	for range one(c, 1+c.Intn(8), 0, 40, 41) {
		r := api.Rule{Left: c.name(), Right: c.names(one(c, c.Intn(4), 8, 9)), Action: c.action()}
		if c.Intn(3) == 0 {
			r.Prec = c.name()
		}
		g.Rules = append(g.Rules, r)
	}
	return g
}

// P7.1, P7.2, P7.3: grammars by chance.
func TestModelByChance(t *testing.T) {
	c := chance{rand.New(rand.NewSource(7))}
	const all = 20000
	right, long := 0, 0
	for range all {
		g := c.grammar()
		switch {
		case len(model(g)) > 4000:
			long++
		case agrees(t, g):
			right++
		}
	}
	if right < all/10 || right > all*9/10 || long > all/10 {
		t.Errorf("of %d %d can be read, %d are too long", all, right, long)
	}
}

// P7.3: texts by chance, made of those of grammars by bytes that are put in, left out, or changed: Canon tells what the reader and the model tell, and of that the same.
func TestModelOfCanon(t *testing.T) {
	c := chance{rand.New(rand.NewSource(8))}
	right, wrong := 0, 0
	for range 20000 {
		s := []byte(model(c.grammar()))
		for range c.Intn(4) {
			i := c.Intn(len(s))
			b := "aZ_0 \t\n\r#%\"\\[]-+:|;{}\x00\xff"[c.Intn(23)]
			s = append(s[:i:i], append([][]byte{{b}, {b, s[i]}, {}}[c.Intn(3)], s[i+1:]...)...)
		}
		g, d := reader.Read(string(s))
		want := ""
		if d.Code == api.OK {
			want = model(g)
		}
		if len(want) > 4000 {
			want, d = "", api.Diag{Code: api.ErrLong, At: api.Pos{Line: 1, Col: 1}}
		}
		got, e := printer.Canon(string(s))
		if got != want || e != d {
			t.Fatalf("Canon(%q) = %q, %v, want %q, %v", s, got, e, want, d)
		}
		if again, e := printer.Canon(got); d.Code == api.OK && (again != got || e != d) {
			t.Fatalf("Canon(%q) = %q, %v", got, again, e)
		}
		if d.Code == api.OK {
			right++
		} else {
			wrong++
		}
	}
	if right < 2000 || wrong < 2000 {
		t.Errorf("%d can be read, %d can't", right, wrong)
	}
}
