package lexer_test

import (
	"math"
	"slices"
	"strings"
	"testing"

	"tronage/api"
	"tronage/lexer"
)

// a is n bytes.
func a(n int) string { return strings.Repeat("a", n) }

// pos is a place.
func pos(line, col int) api.Pos { return api.Pos{Line: line, Col: col} }

// mark is a mark, at a place.
func mark(kind int, text string, line, col int) api.Mark {
	return api.Mark{Kind: kind, Text: text, At: pos(line, col)}
}

// lexes fails the test if a text has not just these marks, the end among them.
func lexes(t *testing.T, s string, want ...api.Mark) {
	t.Helper()
	l, d := lexer.Lex(s)
	if d != (api.Diag{}) || !slices.Equal(l, want) {
		t.Errorf("Lex(%q) = %v, %v, want %v", s, l, d, want)
	}
}

// isOne fails the test if a text, which stands in one line, is not one mark, whatever stands around it.
func isOne(t *testing.T, s string, kind int, text string) {
	t.Helper()
	lexes(t, s, mark(kind, text, 1, 1), mark(api.MarkEnd, "", 1, len(s)+1))
	lexes(t, ";\n "+s+";", mark(api.MarkSemi, "", 1, 1), mark(kind, text, 2, 2), mark(api.MarkSemi, "", 2, len(s)+2), mark(api.MarkEnd, "", 2, len(s)+3))
}

// isWrong fails the test if not just that is wrong in a text, at that place.
func isWrong(t *testing.T, s string, e api.Errno, line, col int) {
	t.Helper()
	l, d := lexer.Lex(s)
	if want := (api.Diag{Code: e, At: pos(line, col)}); d != want || len(l) != 0 {
		t.Errorf("Lex(%q) = %v, %v, want %v", s, l, d, want)
	}
}

// P5.2: the chapter's examples.
func TestExamples(t *testing.T) {
	lexes(t, `E : E "+" ;`,
		mark(api.MarkName, "E", 1, 1), mark(api.MarkColon, "", 1, 3), mark(api.MarkName, "E", 1, 5),
		mark(api.MarkText, "+", 1, 7), mark(api.MarkSemi, "", 1, 11), mark(api.MarkEnd, "", 1, 12))
	lexes(t, `%token N [0-9]+`,
		mark(api.MarkWord, "token", 1, 1), mark(api.MarkName, "N", 1, 8), mark(api.MarkClass, "0123456789", 1, 10),
		mark(api.MarkMany, "", 1, 15), mark(api.MarkEnd, "", 1, 16))
	lexes(t, `a {1{2}}`, mark(api.MarkName, "a", 1, 1), mark(api.MarkAction, "1{2}", 1, 3), mark(api.MarkEnd, "", 1, 9))
	isWrong(t, `[b-a]`, api.ErrByte, 1, 3)
}

// P5.1: where a byte is, by the words of the chapter.
func TestAt(t *testing.T) {
	for _, s := range []string{"", "a", "\n", "ab", "a\n", "\na", "\n\n", "a\nb", "ab\n\ncd\n", "\r\n\t\x00\xff\n" + "é", a(70) + "\n" + a(70)} {
		for i := range len(s) + 1 {
			want := pos(1+strings.Count(s[:i], "\n"), i-strings.LastIndex(s[:i], "\n"))
			if p := lexer.At(s, i); p != want {
				t.Errorf("At(%q, %d) = %v, want %v", s, i, p, want)
			}
		}
	}
}

// P5.1
func TestAtAroundAnLF(t *testing.T) {
	for _, x := range []struct{ i, line, col int }{
		{math.MinInt, 1, 1}, {-1, 1, 1}, {0, 1, 1}, {1, 1, 2}, {2, 1, 3}, {3, 2, 1}, {4, 3, 1}, {5, 3, 2}, {6, 3, 2}, {math.MaxInt, 3, 2},
	} {
		if p := lexer.At("ab\n\nc", x.i); p != pos(x.line, x.col) {
			t.Errorf("At %d: %v", x.i, p)
		}
	}
	for _, i := range []int{math.MinInt, -1, 0, 1, 2, math.MaxInt} {
		if p := lexer.At("", i); p != pos(1, 1) {
			t.Errorf("At %d of no text: %v", i, p)
		}
	}
}

// P5.1: places are told of texts that are too long to be lexed, too.
func TestAtOfALongText(t *testing.T) {
	s := strings.Repeat(a(9)+"\n", api.MaxSource)
	for _, i := range []int{api.MaxSource - 1, api.MaxSource, api.MaxSource + 1, len(s) - 1, len(s), len(s) + 1} {
		at := min(i, len(s))
		if p := lexer.At(s, i); p != pos(1+at/10, 1+at%10) {
			t.Errorf("At %d: %v", i, p)
		}
	}
}

// P5.1
func TestWords(t *testing.T) {
	want := []string{"token", "skip", "left", "right", "nonassoc", "start", "prec", "%"}
	for range 2 {
		l := lexer.Words()
		if !slices.Equal(l, want) {
			t.Errorf("Words() = %v", l)
		}
		// Whoever changes what was answered changes no later answer.
		clear(l)
		isOne(t, "%left", api.MarkWord, "left")
	}
}

// P5.1
func TestName(t *testing.T) {
	for _, s := range []string{"a", "z", "A", "Z", "_", "__", "a0", "_9", "aZ_09", "E", a(api.MaxName), a(api.MaxName + 1), a(api.MaxSource + 1)} {
		if !lexer.Name(s) {
			t.Errorf("%q is no name", s)
		}
	}
	for _, s := range []string{"", "9", "9a", " a", "a ", "a b", "a\n", "\na", "a-b", "a#", "#a", "%a", "a%", "a;", "é", "aé", "a\x00", "\x00"} {
		if lexer.Name(s) {
			t.Errorf("%q is a name", s)
		}
	}
}

// P5.1, P5.2: each byte at the beginning of a name, and behind that.
func TestEachByteOfAName(t *testing.T) {
	const letters = "abcdefghijklmnopqrstuvwxyzABCDEFGHIJKLMNOPQRSTUVWXYZ_"
	for i := range 256 {
		b := string([]byte{byte(i)})
		begins, goesOn := strings.Contains(letters, b), strings.Contains(letters+"0123456789", b)
		if lexer.Name(b) != begins || lexer.Name("x"+b) != goesOn || lexer.Name("x"+b+"x") != goesOn {
			t.Errorf("a name of the byte %q", b)
		}
		if begins {
			isOne(t, b, api.MarkName, b)
		}
		if goesOn {
			isOne(t, "x"+b+"x", api.MarkName, "x"+b+"x")
		}
	}
}

// P5.2
func TestNamesAreAsLongAsPossible(t *testing.T) {
	isOne(t, a(api.MaxName), api.MarkName, a(api.MaxName))
	isOne(t, "_"+strings.Repeat("9", api.MaxName-1), api.MarkName, "_"+strings.Repeat("9", api.MaxName-1))
	isWrong(t, a(api.MaxName+1), api.ErrLong, 1, 1)
	isWrong(t, "\n ;"+a(api.MaxName+1)+";", api.ErrLong, 2, 3)
	isWrong(t, a(api.MaxName)+" "+a(100), api.ErrLong, 1, api.MaxName+2)
	lexes(t, "ab c#d\n_e+F", mark(api.MarkName, "ab", 1, 1), mark(api.MarkName, "c", 1, 4), mark(api.MarkName, "_e", 2, 1),
		mark(api.MarkMany, "", 2, 3), mark(api.MarkName, "F", 2, 4), mark(api.MarkEnd, "", 2, 5))
}

// P5.2
func TestEachByteAlone(t *testing.T) {
	alone := map[byte]int{'+': api.MarkMany, ':': api.MarkColon, '|': api.MarkBar, ';': api.MarkSemi}
	for i := range 256 {
		b := byte(i)
		s := string([]byte{b})
		switch {
		case lexer.Name(s):
		case alone[b] != 0:
			isOne(t, s, alone[b], "")
		case b == '\n':
			lexes(t, s, mark(api.MarkEnd, "", 2, 1))
		case strings.Contains(" \t\r#", s):
			lexes(t, s, mark(api.MarkEnd, "", 1, 2))
		case strings.Contains(`"[{`, s):
			isWrong(t, s, api.ErrOpen, 1, 1)
		default:
			isWrong(t, s, api.ErrByte, 1, 1)
			isWrong(t, "a\n:"+s+"b", api.ErrByte, 2, 2)
		}
	}
}

// P5.2: spaces and comments are no marks.
func TestSpaceAndComments(t *testing.T) {
	lexes(t, "", mark(api.MarkEnd, "", 1, 1))
	lexes(t, " \t\r\n\n ", mark(api.MarkEnd, "", 3, 2))
	lexes(t, "#", mark(api.MarkEnd, "", 1, 2))
	lexes(t, "# ends here", mark(api.MarkEnd, "", 1, 12))
	lexes(t, "#\n", mark(api.MarkEnd, "", 2, 1))
	lexes(t, "a#b\nc", mark(api.MarkName, "a", 1, 1), mark(api.MarkName, "c", 2, 1), mark(api.MarkEnd, "", 2, 2))
	lexes(t, "#\"[{%=\\}\x00\xff # x\r \n#\n\n#;\n;", mark(api.MarkSemi, "", 5, 1), mark(api.MarkEnd, "", 5, 2))
	lexes(t, "a\r\nb\tc", mark(api.MarkName, "a", 1, 1), mark(api.MarkName, "b", 2, 1), mark(api.MarkName, "c", 2, 3), mark(api.MarkEnd, "", 2, 4))
	isWrong(t, "#a\r=\n =", api.ErrByte, 2, 2)
	for _, b := range []string{"\v", "\f", "\x00", "\u00a0", "\ufeff"} {
		isWrong(t, " "+b+" ", api.ErrByte, 1, 2)
	}
}

// P5.2: a # within a text, a class or an action begins no comment.
func TestNoCommentWithinAMark(t *testing.T) {
	isOne(t, `"#"`, api.MarkText, "#")
	isOne(t, `[#]`, api.MarkClass, "#")
	isOne(t, `{#}`, api.MarkAction, "#")
	isWrong(t, "%#\n%", api.ErrByte, 1, 1)
}

// P5.2
func TestWordMarks(t *testing.T) {
	for _, w := range lexer.Words() {
		isOne(t, "%"+w, api.MarkWord, w)
	}
	for _, s := range []string{
		"%", "% ", "% token", "%\n%", "%tok", "%toke", "%tokens", "%tokenskip", "%Token", "%TOKEN", "%tokeN", "%skipp", "%lef", "%leftt",
		"%righ", "%rights", "%nonasso", "%nonassocs", "%non", "%star", "%starts", "%pre", "%precs", "%_", "%_left", "%9", "%9left",
		"%=", "%a", "%\"left\"", "%[a]", "%{1}", "%;", "%#", "%\x00", "%\xff", "%" + a(100),
	} {
		isWrong(t, s, api.ErrByte, 1, 1)
		isWrong(t, ";\n"+s, api.ErrByte, 2, 1)
	}
}

// P5.2: a word ends where there are no more letters from a to z, and no letter goes on behind %%.
func TestWordsEnd(t *testing.T) {
	lexes(t, "%%%%", mark(api.MarkWord, "%", 1, 1), mark(api.MarkWord, "%", 1, 3), mark(api.MarkEnd, "", 1, 5))
	lexes(t, "%%token", mark(api.MarkWord, "%", 1, 1), mark(api.MarkName, "token", 1, 3), mark(api.MarkEnd, "", 1, 8))
	lexes(t, "%left%skip", mark(api.MarkWord, "left", 1, 1), mark(api.MarkWord, "skip", 1, 6), mark(api.MarkEnd, "", 1, 11))
	lexes(t, "%tokenN", mark(api.MarkWord, "token", 1, 1), mark(api.MarkName, "N", 1, 7), mark(api.MarkEnd, "", 1, 8))
	lexes(t, "%prec_x", mark(api.MarkWord, "prec", 1, 1), mark(api.MarkName, "_x", 1, 6), mark(api.MarkEnd, "", 1, 8))
	lexes(t, `%skip" "`, mark(api.MarkWord, "skip", 1, 1), mark(api.MarkText, " ", 1, 6), mark(api.MarkEnd, "", 1, 9))
	isWrong(t, "%%%", api.ErrByte, 1, 3)
	isWrong(t, "%left9", api.ErrByte, 1, 6)
	isWrong(t, "%leftx9", api.ErrByte, 1, 1)
}

// P5.2
func TestTexts(t *testing.T) {
	isOne(t, `"a"`, api.MarkText, "a")
	isOne(t, `"\\\"\n\t"`, api.MarkText, "\\\"\n\t")
	isOne(t, `"\\"`, api.MarkText, `\`)
	isOne(t, `"\\n"`, api.MarkText, `\n`)
	isOne(t, `"nt"`, api.MarkText, "nt")
	isOne(t, `"é{[]}%% ;"`, api.MarkText, "é{[]}%% ;")
	lexes(t, `"a""b"c`, mark(api.MarkText, "a", 1, 1), mark(api.MarkText, "b", 1, 4), mark(api.MarkName, "c", 1, 7), mark(api.MarkEnd, "", 1, 8))
	isWrong(t, `""`, api.ErrByte, 1, 1)
	isWrong(t, `"a" ""`, api.ErrByte, 1, 5)
	isWrong(t, `"""`, api.ErrByte, 1, 1)
}

// P5.2: each byte within a text, as it is, and behind a \.
func TestEachByteOfAText(t *testing.T) {
	tells := map[byte]string{'\\': `\`, '"': `"`, 'n': "\n", 't': "\t"}
	for i := range 256 {
		b := string([]byte{byte(i)})
		if !strings.Contains("\"\\\n", b) {
			isOne(t, `"`+b+`"`, api.MarkText, b)
			isOne(t, `"x`+b+`x"`, api.MarkText, "x"+b+"x")
		}
		if told, ok := tells[byte(i)]; ok {
			isOne(t, `"x\`+b+`x"`, api.MarkText, "x"+told+"x")
		} else {
			isWrong(t, `"x\`+b+`x"`, api.ErrByte, 1, 3)
			isWrong(t, `"x\`+b, api.ErrByte, 1, 3)
		}
	}
}

// P5.2: what a text tells is counted, not what it is written with.
func TestLongTexts(t *testing.T) {
	isOne(t, `"`+a(api.MaxText)+`"`, api.MarkText, a(api.MaxText))
	isOne(t, `"`+strings.Repeat(`\\`, api.MaxText)+`"`, api.MarkText, strings.Repeat(`\`, api.MaxText))
	isWrong(t, `"`+a(api.MaxText+1)+`"`, api.ErrLong, 1, 1)
	isWrong(t, `"`+strings.Repeat(`\n`, api.MaxText+1)+`"`, api.ErrLong, 1, 1)
	isWrong(t, "\n  \""+a(3*api.MaxText)+`"`, api.ErrLong, 2, 3)
}

// P5.2: an LF, and the end, within a text, and what is found ahead of them.
func TestOpenTexts(t *testing.T) {
	for _, s := range []string{`"`, `"a`, "\"\n", "\"\n\"", "\"a\n\"", "\"a\n\\q\"", `"\"`, `"\\\"`, `"` + a(100), `"` + a(100) + "\n\""} {
		isWrong(t, s, api.ErrOpen, 1, 1)
		isWrong(t, "a\n\n  "+s, api.ErrOpen, 3, 3)
	}
	isWrong(t, `"ab\`, api.ErrByte, 1, 4)
	isWrong(t, "\"ab\\\n\"", api.ErrByte, 1, 4)
	isWrong(t, `"\\\`, api.ErrByte, 1, 4)
	isWrong(t, `"\q\q`, api.ErrByte, 1, 2)
	isWrong(t, `"`+a(100)+`\q"`, api.ErrByte, 1, 102)
	isWrong(t, `"`+a(100)+`\`, api.ErrByte, 1, 102)
}

// P5.2: the bytes of a class, in any order, some twice.
func TestClasses(t *testing.T) {
	for _, x := range []struct{ s, bytes string }{
		{`[a]`, "a"}, {`[ba]`, "ab"}, {`[aa]`, "a"}, {`[cabbac]`, "abc"}, {`[a-c]`, "abc"}, {`[a-a]`, "a"}, {`[a-b]`, "ab"},
		{`[c-ea-c]`, "abcde"}, {`[a-cb-d]`, "abcd"}, {`[a-cb]`, "abc"}, {`[ba-c]`, "abc"}, {`[a-ce]`, "abce"}, {`[ea-c]`, "abce"},
		{`[0-9a-fA-F_]`, "0123456789ABCDEF_abcdef"}, {`[\-]`, "-"}, {`[\--\-]`, "-"}, {`[+--]`, "+,-"}, {`[+-\-]`, "+,-"},
		{`[\--/]`, "-./"}, {`[\---]`, "-"}, {`[\--0a]`, "-./0a"}, {`[a\-c]`, "-ac"}, {`[a-c\-e]`, "-abce"}, {`[\]]`, "]"},
		{`[[]`, "["}, {`[[-\]]`, `[\]`}, {`[\\]`, `\`}, {`[\\-\]]`, `\]`}, {`[\n]`, "\n"}, {`[\t]`, "\t"}, {`[\t-\n]`, "\t\n"},
		{`[n]`, "n"}, {`["]`, `"`}, {`[^a]`, "^a"}, {`[ ]`, " "}, {`[{}]`, "{}"}, {`[+--b]`, "+,-b"}, {"[\x00-\x03]", "\x00\x01\x02\x03"},
		{"[\xfd-\xff]", "\xfd\xfe\xff"}, {"[\xff\x00]", "\x00\xff"}, {"[é]", "\xa9\xc3"},
	} {
		isOne(t, x.s, api.MarkClass, x.bytes)
	}
	lexes(t, `[a][b]+c`, mark(api.MarkClass, "a", 1, 1), mark(api.MarkClass, "b", 1, 4), mark(api.MarkMany, "", 1, 7), mark(api.MarkName, "c", 1, 8), mark(api.MarkEnd, "", 1, 9))
}

// written is how a byte is written within a class, so that it is a byte of a part.
func written(b byte) string {
	switch b {
	case '\\', ']', '-':
		return `\` + string([]byte{b})
	case '\n':
		return `\n`
	}
	return string([]byte{b})
}

// P5.2: all ranges; those that fall are wrong at their -.
func TestEachRange(t *testing.T) {
	for first := range 256 {
		for last := range 256 {
			s := "[" + written(byte(first)) + "-" + written(byte(last)) + "]"
			var all []byte
			for b := first; b <= last; b++ {
				all = append(all, byte(b))
			}
			l, d := lexer.Lex(s)
			falls := api.Diag{Code: api.ErrByte, At: pos(1, 2+len(written(byte(first))))}
			switch {
			case last < first && (d != falls || len(l) != 0):
				t.Errorf("Lex(%q) = %v, %v", s, l, d)
			case first <= last && (d != (api.Diag{}) || len(l) != 2 || l[0] != mark(api.MarkClass, string(all), 1, 1)):
				t.Errorf("Lex(%q) = %v, %v", s, l, d)
			}
		}
	}
}

// P5.2: each byte within a class, as it is, and behind a \, alone and as the second one of a range.
func TestEachByteOfAClass(t *testing.T) {
	tells := map[byte]string{'\\': `\`, ']': "]", '-': "-", 'n': "\n", 't': "\t"}
	for i := range 256 {
		b := string([]byte{byte(i)})
		if !strings.Contains("]\\-\n", b) {
			isOne(t, "["+b+"]", api.MarkClass, b)
		}
		if told, ok := tells[byte(i)]; ok {
			isOne(t, `[\`+b+`]`, api.MarkClass, told)
			isOne(t, `[\`+b+`-\`+b+`]`, api.MarkClass, told)
		} else {
			isWrong(t, `[x\`+b+`]`, api.ErrByte, 1, 3)
			isWrong(t, `[x-\`+b+`]`, api.ErrByte, 1, 4)
			isWrong(t, `[\`+b, api.ErrByte, 1, 2)
		}
	}
}

// P5.2: a - that is no range's.
func TestWrongDashes(t *testing.T) {
	for _, x := range []struct {
		s   string
		col int
	}{
		{`[-`, 2}, {`[-]`, 2}, {`[-a]`, 2}, {`[--a]`, 2}, {`[---]`, 2}, {"[-\n]", 2}, {`[-\q]`, 2}, {`[a-]`, 3}, {`[ab-]`, 4}, {`[a-c-]`, 5},
		{`[a-c-e]`, 5}, {`[a-c-`, 5}, {`[a-c--]`, 5}, {"[a-c-\n", 5}, {`[+---]`, 5}, {`[+---a]`, 5}, {`[a-bc-d-e]`, 8}, {`[\--0-9]`, 6},
		{`[b-a]`, 3}, {`[b-a`, 3}, {"[b-a\n", 3}, {`[b-a-]`, 3}, {`[a--]`, 3}, {`[a--`, 3}, {`[a-\-]`, 3}, {`[a-\]]`, 3}, {`[a-\n]`, 3},
		{`[\t-!\n-\t]`, 8}, {`[\\-[]`, 4}, {`[\]-]`, 4}, {"[\xff-\x00]", 3}, {`[a-cc-a]`, 6}, {`[b-a\q]`, 3},
	} {
		isWrong(t, x.s, api.ErrByte, 1, x.col)
		isWrong(t, "{\n}\n: "+x.s, api.ErrByte, 3, 2+x.col)
	}
}

// P5.2: an LF, and the end, within a class, and a class with no part.
func TestOpenClasses(t *testing.T) {
	for _, s := range []string{`[`, `[a`, "[\n", "[\n]", "[a\n]", `[a-`, "[a-\n", "[a-\n]", `[a-c`, "[a-c\n]", `[\]`, `[A-\]`, `[[`, "[a\n-b]", "[a\n\\q]"} {
		isWrong(t, s, api.ErrOpen, 1, 1)
		isWrong(t, "a\n\n  "+s, api.ErrOpen, 3, 3)
	}
	isWrong(t, `[a-\]`, api.ErrByte, 1, 3)
	isWrong(t, `[]`, api.ErrByte, 1, 1)
	isWrong(t, "a\n []", api.ErrByte, 2, 2)
	isWrong(t, `[]]`, api.ErrByte, 1, 1)
	isWrong(t, `[]a]`, api.ErrByte, 1, 1)
	isWrong(t, `[a]]`, api.ErrByte, 1, 4)
	isWrong(t, `[a\`, api.ErrByte, 1, 3)
	isWrong(t, `[a-\`, api.ErrByte, 1, 4)
	isWrong(t, "[a\\\n]", api.ErrByte, 1, 3)
	isWrong(t, "[z-\\\n]", api.ErrByte, 1, 4)
}

// P5.2: a class has no limit of its own.
func TestLongClasses(t *testing.T) {
	s := "["
	var all []byte
	for b := range 256 {
		all = append(all, byte(b))
		s += written(byte(255 - b))
	}
	isOne(t, s+"]", api.MarkClass, string(all))
	isOne(t, "["+a(1000)+"]", api.MarkClass, "a")
}

// P5.2
func TestActions(t *testing.T) {
	for _, x := range []string{
		"", " ", "1", "$1 + $3", "{}", "{1}{2}", "1{2}", "{{{}}}", "{{{1}{2}}{3}}{{4}}", "\"", "[", "\\", "\\q", "%", "#", "é\x00\xff\t\r",
	} {
		isOne(t, "{"+x+"}", api.MarkAction, x)
	}
	lexes(t, "{\n\n1} {#\n}\n;", mark(api.MarkAction, "\n\n1", 1, 1), mark(api.MarkAction, "#\n", 3, 4), mark(api.MarkSemi, "", 5, 1), mark(api.MarkEnd, "", 5, 2))
	lexes(t, "{}{}", mark(api.MarkAction, "", 1, 1), mark(api.MarkAction, "", 1, 3), mark(api.MarkEnd, "", 1, 5))
	isWrong(t, "{1}}", api.ErrByte, 1, 4)
	isWrong(t, "}{", api.ErrByte, 1, 1)
	isWrong(t, `{"}"{`, api.ErrOpen, 1, 4)
}

// P5.2
func TestLongActions(t *testing.T) {
	isOne(t, "{"+a(api.MaxAction)+"}", api.MarkAction, a(api.MaxAction))
	isWrong(t, "{"+a(api.MaxAction+1)+"}", api.ErrLong, 1, 1)
	isWrong(t, "{\n}\n {"+a(api.MaxAction+1)+"}", api.ErrLong, 3, 2)
	braces := strings.Repeat("{}", api.MaxAction/2)
	isOne(t, "{"+braces+"}", api.MarkAction, braces)
	isWrong(t, "{"+braces+" }", api.ErrLong, 1, 1)
	lexes(t, "{"+strings.Repeat("\n", api.MaxAction)+"}", mark(api.MarkAction, strings.Repeat("\n", api.MaxAction), 1, 1), mark(api.MarkEnd, "", api.MaxAction+1, 2))
}

// P5.2: braces within braces, and what is found ahead of the end.
func TestOpenActions(t *testing.T) {
	deep := strings.Repeat("{", api.MaxNest)
	isOne(t, deep+"1"+strings.Repeat("}", api.MaxNest), api.MarkAction, deep[1:]+"1"+strings.Repeat("}", api.MaxNest-1))
	isWrong(t, deep+"{"+strings.Repeat("}", api.MaxNest+1), api.ErrDeep, 1, api.MaxNest+1)
	isWrong(t, deep+"{", api.ErrDeep, 1, api.MaxNest+1)
	isWrong(t, deep+"}}{{{", api.ErrDeep, 1, api.MaxNest+5)
	isWrong(t, " "+deep+"\n "+"{", api.ErrDeep, 2, 2)
	isWrong(t, "{"+a(api.MaxAction+1)+deep, api.ErrDeep, 1, api.MaxAction+2+api.MaxNest)
	for _, s := range []string{"{", "{1", "{\n", "{{}", "{{{{}}}", deep, "{" + a(api.MaxAction+1), "{1{2}\n\n=\\q\""} {
		isWrong(t, s, api.ErrOpen, 1, 1)
		isWrong(t, "a\n\n  "+s, api.ErrOpen, 3, 3)
	}
}

// P5.2: a text may be so long, and no longer, whatever it is.
func TestLongSources(t *testing.T) {
	spaces := strings.Repeat(" ", api.MaxSource)
	lexes(t, spaces, mark(api.MarkEnd, "", 1, api.MaxSource+1))
	lexes(t, spaces[1:]+"a", mark(api.MarkName, "a", 1, api.MaxSource), mark(api.MarkEnd, "", 1, api.MaxSource+1))
	isWrong(t, spaces[1:]+"=", api.ErrByte, 1, api.MaxSource)
	l, d := lexer.Lex(strings.Repeat(";", api.MaxSource))
	if d != (api.Diag{}) || len(l) != api.MaxSource+1 || l[api.MaxSource] != mark(api.MarkEnd, "", 1, api.MaxSource+1) {
		t.Error(len(l), d)
	}
	for _, s := range []string{spaces + " ", spaces + "\n", "=" + spaces, "\n" + spaces, "#" + spaces, "\"\n" + spaces, spaces + spaces + a(100), strings.Repeat("{", 1<<20)} {
		isWrong(t, s, api.ErrLong, 1, 1)
	}
}

// P5.2: where several things are wrong the one is told that is found first.
func TestTheFirstOneIsTold(t *testing.T) {
	for _, x := range []struct {
		s    string
		e    api.Errno
		line int
		col  int
	}{
		{"= \"", api.ErrByte, 1, 1}, {"\"a\n=", api.ErrOpen, 1, 1}, {"a\n%x \"", api.ErrByte, 2, 1}, {`"" =`, api.ErrByte, 1, 1},
		{a(33) + "=", api.ErrLong, 1, 1}, {"=" + a(33), api.ErrByte, 1, 1}, {`"` + a(33) + "\" =", api.ErrLong, 1, 1},
		{`"` + a(33) + "\n", api.ErrOpen, 1, 1}, {`"\q` + a(33) + `"`, api.ErrByte, 1, 2}, {`[b-a-]`, api.ErrByte, 1, 3},
		{`[-\q`, api.ErrByte, 1, 2}, {`[\q-a`, api.ErrByte, 1, 2}, {`[b-\q`, api.ErrByte, 1, 4}, {`[] [`, api.ErrByte, 1, 1},
		{`{` + a(201) + `} =`, api.ErrLong, 1, 1}, {`{` + a(201) + `{{{{`, api.ErrDeep, 1, 206}, {`{` + a(201), api.ErrOpen, 1, 1},
		{"{{{{{\n\"", api.ErrDeep, 1, 5}, {"{=} \n=", api.ErrByte, 2, 1}, {"%tokenx " + a(33), api.ErrByte, 1, 1},
	} {
		isWrong(t, x.s, x.e, x.line, x.col)
	}
}
