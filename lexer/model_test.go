package lexer_test

import (
	"math/rand"
	"regexp"
	"slices"
	"strings"
	"testing"

	"tronage/api"
	"tronage/lexer"
)

// one is a byte of a part of a class, as it is written.
const one = `[^\]\\\n-]|\\[\\\]nt-]`

// The model finds marks by patterns, and what is wrong by what stands where the longest right beginning ends. (Its patterns go by runes, so texts that are held against it have no runes of several bytes.)
var (
	blanks   = regexp.MustCompile(`^(?:[ \t\n\r]|#[^\n]*)*`)
	names    = regexp.MustCompile(`^[a-zA-Z_][a-zA-Z_0-9]*`)
	wordMark = regexp.MustCompile(`^%(?:%|[a-z]*)`)
	texts    = regexp.MustCompile(`^"(?:[^"\\\n]|\\[\\"nt])*`)
	parts    = regexp.MustCompile(`^(` + one + `)(?:-(` + one + `|-))?`)
	actions  = regexp.MustCompile(`^` + nested(api.MaxNest))
	told     = strings.NewReplacer(`\\`, `\`, `\"`, `"`, `\]`, `]`, `\-`, `-`, `\n`, "\n", `\t`, "\t")
)

// nested is the pattern of braces within braces, so many at most.
func nested(most int) string {
	if most == 1 {
		return `\{[^{}]*\}`
	}
	return `\{(?:[^{}]|` + nested(most-1) + `)*\}`
}

// begun is what a text begins with: a mark of so many bytes; or what is wrong, behind so many bytes.
type begun struct {
	kind int
	text string
	size int
	e    api.Errno
}

// model is Lex by the model.
func model(s string) ([]api.Mark, api.Diag) {
	if len(s) > api.MaxSource {
		return nil, api.Diag{Code: api.ErrLong, At: pos(1, 1)}
	}
	var l []api.Mark
	for at := len(blanks.FindString(s)); at < len(s); at += len(blanks.FindString(s[at:])) {
		m := modelMark(s[at:])
		if m.e != api.OK {
			return nil, api.Diag{Code: m.e, At: modelAt(s, at+m.size)}
		}
		l = append(l, api.Mark{Kind: m.kind, Text: m.text, At: modelAt(s, at)})
		at += m.size
	}
	return append(l, api.Mark{At: modelAt(s, len(s))}), api.Diag{}
}

func modelAt(s string, i int) api.Pos {
	lines := strings.Split(s[:i], "\n")
	return pos(len(lines), len(lines[len(lines)-1])+1)
}

func modelMark(s string) begun {
	switch {
	case names.MatchString(s):
		name := names.FindString(s)
		return most(begun{kind: api.MarkName, text: name, size: len(name)}, 32)
	case s[0] == '%':
		w := wordMark.FindString(s)
		if !slices.Contains(strings.Split("%token %skip %left %right %nonassoc %start %prec %%", " "), w) {
			return begun{e: api.ErrByte}
		}
		return begun{kind: api.MarkWord, text: w[1:], size: len(w)}
	case s[0] == '"':
		return modelText(s)
	case s[0] == '[':
		return modelClass(s)
	case s[0] == '{':
		return modelAction(s)
	}
	if i := strings.IndexByte("+:|;", s[0]); i >= 0 {
		return begun{kind: api.MarkMany + i, size: 1}
	}
	return begun{e: api.ErrByte}
}

// most is a mark of so many bytes at most.
func most(m begun, n int) begun {
	if len(m.text) > n {
		return begun{e: api.ErrLong}
	}
	return m
}

// stopped is what is wrong within a text or a class that is right so far, where neither its closing byte nor a right one comes.
func stopped(s string, size int) begun {
	if strings.HasPrefix(s[size:], `\`) {
		return begun{e: api.ErrByte, size: size}
	}
	return begun{e: api.ErrOpen}
}

func modelText(s string) begun {
	w := texts.FindString(s)
	if !strings.HasPrefix(s[len(w):], `"`) {
		return stopped(s, len(w))
	}
	if w == `"` {
		return begun{e: api.ErrByte}
	}
	return most(begun{kind: api.MarkText, text: told.Replace(w[1:]), size: len(w) + 1}, 32)
}

func modelClass(s string) begun {
	set := map[byte]bool{}
	size, single := 1, false
	for m := parts.FindStringSubmatch(s[size:]); m != nil; m = parts.FindStringSubmatch(s[size:]) {
		single = m[2] == ""
		first, last := told.Replace(m[1])[0], told.Replace(m[1]+m[2])
		if last[len(last)-1] < first {
			return begun{e: api.ErrByte, size: size + len(m[1])}
		}
		for b := int(first); b <= int(last[len(last)-1]); b++ {
			set[byte(b)] = true
		}
		size += len(m[0])
	}
	switch dashed := strings.HasPrefix(s[size:], "-"); {
	case dashed && (!single || strings.HasPrefix(s[size:], "-]")):
		return begun{e: api.ErrByte, size: size}
	case dashed:
		return stopped(s, size+1)
	case !strings.HasPrefix(s[size:], "]"):
		return stopped(s, size)
	case len(set) == 0:
		return begun{e: api.ErrByte}
	}
	var all []byte
	for b := range set {
		all = append(all, b)
	}
	slices.Sort(all)
	return begun{kind: api.MarkClass, text: string(all), size: size + 1}
}

func modelAction(s string) begun {
	if w := actions.FindString(s); w != "" {
		return most(begun{kind: api.MarkAction, text: w[1 : len(w)-1], size: len(w)}, 200)
	}
	for i := range len(s) {
		if strings.Count(s[:i+1], "{")-strings.Count(s[:i+1], "}") > 4 {
			return begun{e: api.ErrDeep, size: i}
		}
	}
	return begun{e: api.ErrOpen}
}

// agrees fails the test if Lex and the model tell of a text what is not the same, or tell a place that the text does not have.
func agrees(t *testing.T, s string) {
	t.Helper()
	l, d := lexer.Lex(s)
	want, wrong := model(s)
	if d != wrong || !slices.Equal(l, want) {
		t.Fatalf("Lex(%q) = %v, %v, want %v, %v", s, l, d, want, wrong)
	}
	if d.Code == api.OK {
		return
	}
	for i := range len(s) + 1 {
		if lexer.At(s, i) == d.At {
			return
		}
	}
	t.Fatalf("Lex(%q): %v is no place of it", s, d.At)
}

// P5.2, P5.3: all short texts of some bytes, and what they are within a mark.
func TestAllShortTexts(t *testing.T) {
	for _, x := range []struct {
		ahead, bytes string
		most         int
	}{
		{"", "a9%\"[{+ #\n=", 4}, {"", "\"\\n\n a\xff", 5}, {"\"", "\"\\n\n]q", 5}, {"[", "]-\\nab\n", 6}, {"[", "-,.]\\", 6},
		{"", "{} \n\"", 6}, {"{{{", "{}a", 7}, {"%", "%prec_ \n", 4}, {"%pre", "%ca\n#", 4}, {"#", "\n#;\r=", 5},
	} {
		var try func(s string, left int)
		try = func(s string, left int) {
			agrees(t, s)
			for i := 0; i < len(x.bytes) && left > 0; i++ {
				try(s+x.bytes[i:i+1], left-1)
			}
		}
		try(x.ahead, x.most)
	}
}

// some are bytes of which long texts are made.
const some = "abzAZ_09%\"\\[]-{}+:|;#=\n\t\r nt\x00\xff."

// P5.2, P5.3: long texts, of bytes and of marks.
func TestLongTextsAtRandom(t *testing.T) {
	r := rand.New(rand.NewSource(5))
	for range 20000 {
		var b strings.Builder
		for b.Len() < 10+r.Intn(300) {
			switch r.Intn(4) {
			case 0:
				b.WriteByte(some[r.Intn(len(some))])
			case 1:
				b.WriteString(strings.Repeat(some[r.Intn(len(some)):][:1], r.Intn(40)))
			default:
				b.WriteString(whole[r.Intn(len(whole))].s + "\n")
			}
		}
		agrees(t, b.String())
	}
}

// whole are marks, as they are written, and what they are.
var whole = []struct {
	s    string
	kind int
	text string
}{
	{"a", 1, "a"}, {"_E9", 1, "_E9"}, {a(32), 1, a(32)}, {"%token", 2, "token"}, {"%left", 2, "left"}, {"%%", 2, "%"}, {`"+"`, 3, "+"},
	{`"\n # \\\""`, 3, "\n # \\\""}, {"[a-c]", 4, "abc"}, {`[\--/# ]`, 4, " #-./"}, {"+", 5, ""}, {":", 6, ""}, {"|", 7, ""}, {";", 8, ""},
	{"{}", 9, ""}, {"{$1 {#} \"}", 9, "$1 {#} \""}, {"{\n\n}", 9, "\n\n"},
}

// wrong are texts in one line that are wrong, as far as they go, and at which byte.
var wrong = []struct {
	s  string
	e  api.Errno
	at int
}{
	{"=", api.ErrByte, 0}, {"%x", api.ErrByte, 0}, {`"a`, api.ErrOpen, 0}, {`"a\q`, api.ErrByte, 2}, {`""`, api.ErrByte, 0}, {"[a", api.ErrOpen, 0},
	{"[b-a]", api.ErrByte, 2}, {"[]", api.ErrByte, 0}, {"{{{{{", api.ErrDeep, 4}, {a(33), api.ErrLong, 0}, {`"` + a(33) + `"`, api.ErrLong, 0},
}

// between are spaces and comments.
var between = []string{" ", "\n", "\t", "\r", "\r\n", "#\n", "# \"[{%x = }\n", " \n #a\n\n#b\r\n\t ", "#" + a(40) + "\n"}

// space are some of them.
func space(r *rand.Rand) string {
	s := between[r.Intn(len(between))]
	for range r.Intn(3) {
		s += between[r.Intn(len(between))]
	}
	return s
}

// P5.3: spaces and comments between marks change nothing but places.
func TestSpaceChangesNothingButPlaces(t *testing.T) {
	r := rand.New(rand.NewSource(6))
	for range 2000 {
		var want []api.Mark
		s := ""
		for range r.Intn(8) {
			s += space(r)
			w := whole[r.Intn(len(whole))]
			want = append(want, api.Mark{Kind: w.kind, Text: w.text, At: modelAt(s, len(s))})
			s += w.s
		}
		s += space(r)
		end := modelAt(s, len(s))
		lexes(t, s, append(want, api.Mark{At: end})...)
		for _, x := range wrong {
			isWrong(t, s+x.s+"\n"+space(r), x.e, end.Line, end.Col+x.at)
		}
	}
}
