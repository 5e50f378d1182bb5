package first_test

import (
	"math"
	"slices"
	"strconv"
	"strings"
	"testing"

	"tronage/api"
	"tronage/first"
	"tronage/names"
	"tronage/reader"
)

// read is the plan of a grammar's text.
func read(t *testing.T, text string) api.Plan {
	t.Helper()
	g, d := reader.Read(text)
	if d.Code != api.OK {
		t.Fatalf("%q is no grammar: %v", text, d)
	}
	p, e, name := names.Of(g)
	if e != api.OK {
		t.Fatalf("%q has no plan: %d, %q", text, e, name)
	}
	return p
}

// plan is the plan of some rules, whose tokens are a, b and c, from 1 on; their first Left is 4.
func plan(t *testing.T, rules string) api.Plan {
	t.Helper()
	return read(t, "%token a \"a\" %token b \"b\" %token c \"c\" "+rules)
}

// letters are some terminals as a text: $ is the end.
func letters(l []int) string {
	s := ""
	for _, term := range l {
		s += string("$abc"[term])
	}
	return s
}

// shown are facts as a text: of each variable, and of the accepted one, the First, a ? if it is nullable, and the Follow.
func shown(f first.Facts) string {
	var l []string
	for i, nullable := range f.Nullable {
		mark := "/"
		if nullable {
			mark = "?/"
		}
		l = append(l, letters(f.First[i])+mark+letters(f.Follow[i]))
	}
	return strings.Join(l, " ")
}

// tells fails the test if a grammar's facts are not those that are asked for, in as many rounds.
func tells(t *testing.T, rules, want string, rounds int) {
	t.Helper()
	f := first.Of(plan(t, rules))
	if len(f.First) != len(f.Nullable) || len(f.Follow) != len(f.Nullable) {
		t.Fatalf("of %q there are %d, %d and %d facts", rules, len(f.Nullable), len(f.First), len(f.Follow))
	}
	if s := shown(f); s != want || f.Rounds != rounds {
		t.Errorf("of %q the facts are %q in %d rounds, want %q in %d", rules, s, f.Rounds, want, rounds)
	}
}

// P10.1: the chapter's example.
func TestExample(t *testing.T) {
	tells(t, "%% S : T a ; T : b T | ;", "ab/$ b?/a ab/$", 4)
}

// P10.1: what is nullable is what has a rule that is so throughout; one symbol that is not is enough that a rule is not.
func TestNullable(t *testing.T) {
	tells(t, "%% S : ;", "?/$ ?/$", 3)
	tells(t, "%% S : a ;", "a/$ a/$", 3)
	tells(t, "%% S : a | ;", "a?/$ a?/$", 3)
	tells(t, "%% S : S S | ;", "?/$ ?/$", 3)
	tells(t, "%% S : T U V ; T : a | ; U : b | ; V : c | ;", "abc?/$ a?/$bc b?/$c c?/$ abc?/$", 4)
	tells(t, "%% S : T U V ; T : a | ; U : b | ; V : c ;", "abc/$ a?/bc b?/c c/$ abc/$", 4)
	tells(t, "%% S : T U V ; T : a | ; U : b ; V : c | ;", "ab/$ a?/b b/$c c?/$ ab/$", 4)
	tells(t, "%% S : T U V ; T : a ; U : b | ; V : c | ;", "a/$ a/$bc b?/$c c?/$ a/$", 4)
	tells(t, "%% S : T U c ; T : a | ; U : b | ;", "abc/$ a?/bc b?/c abc/$", 4)
	tells(t, "%% S : T T T T T T T T ; T : U ; U : ;", "?/$ ?/$ ?/$ ?/$", 5)
}

// P10.1: a variable whose rules are all of itself begins with nothing, and is not nullable; what stands ahead of a rule's end tells nothing of what is behind it.
func TestOfItself(t *testing.T) {
	tells(t, "%% S : S ;", "/$ /$", 1)
	tells(t, "%% S : S | S S | S S S ;", "/$ /$", 1)
	tells(t, "%% S : S a | S b S ;", "/$ab /$", 1)
	tells(t, "%% S : T ; T : S ;", "/$ /$ /$", 1)
	tells(t, "%% S : T b ; T : T a ;", "/$ /ab /$", 1)
	tells(t, "%% S : T b | c ; T : T a | U c ; U : ;", "c/$ c/ab ?/c c/$", 3)
	tells(t, "%% S : S a | b ;", "b/$a b/$", 3)
	tells(t, "%% S : S a | ;", "a?/$a a?/$", 4)
	tells(t, "%% S : a S | b S ;", "ab/$ ab/$", 3)
}

// P10.1: what comes behind goes on through nullable symbols, and to the Left's Follow where all behind are nullable; of rules that are never come to, too.
func TestFollow(t *testing.T) {
	tells(t, "%% S : T U ; T : a ; U : b ;", "a/$ a/b b/$ a/$", 4)
	tells(t, "%% S : T U ; T : a ; U : b | ;", "a/$ a/$b b?/$ a/$", 4)
	tells(t, "%% S : T U c ; T : a ; U : b | ;", "a/$ a/bc b?/c a/$", 4)
	tells(t, "%% S : T U V ; T : a T | a ; U : V V | ; V : b | ;", "a/$ a/$b b?/$b b?/$b a/$", 4)
	tells(t, "%% S : T a | U b ; T : U c U ; U : V ; V : T | c ;", "c/$ c/abc c/abc c/abc c/$", 5)
	tells(t, "%% S : T T ; T : a | b ;", "ab/$ ab/$ab ab/$", 4)
	tells(t, "%% S : T U U c ; T : a ; U : b | ;", "a/$ a/bc b?/bc a/$", 4)
	tells(t, "%% S : a ; T : U b ; U : T c | c ;", "a/$ c/c c/b a/$", 3)
	tells(t, "%% S : a ; T : S U S ; U : b | ;", "a/$ab a/ b?/a a/$", 3)
	tells(t, "%% E : T X ; X : a T X | ; T : F Y ; Y : b F Y | ; F : c ;", "c/$ a?/$ c/$a b?/$a c/$ab c/$", 5)
}

// P10.1: it is the variable with which is begun that the end comes behind, and the accepted one; not the first Left.
func TestStart(t *testing.T) {
	rules := " %% S : T a ; T : b ; U : S c | ;"
	tells(t, "%start U"+rules, "b/c b/a b?/$ b?/$", 4)
	tells(t, "%start S"+rules, "b/$c b/a b?/ b/$", 4)
	tells(t, "%start T"+rules, "b/c b/$a b?/ b/$", 3)
}

// P10.2: a rule uses what the same round has added ahead of it; what is added behind it counts in the next round; the last round changes nothing.
func TestRounds(t *testing.T) {
	tells(t, "%% S : T ; T : U ; U : a ;", "a/$ a/$ a/$ a/$", 5)
	tells(t, "%start S %% U : a ; T : U ; S : T ;", "a/$ a/$ a/$ a/$", 3)
	tells(t, "%start S %% T : U ; U : a ; S : T ;", "a/$ a/$ a/$ a/$", 4)
	tells(t, "%% S : T ; T : U ; U : ;", "?/$ ?/$ ?/$ ?/$", 5)
	tells(t, "%start S %% U : ; T : U ; S : T ;", "?/$ ?/$ ?/$ ?/$", 3)
	tells(t, "%% S : T a ; T : ;", "a/$ ?/a a/$", 4)
	tells(t, "%start S %% T : ; S : T a ;", "?/a a/$ a/$", 3)
	tells(t, "%% S : | S a ;", "a?/$a a?/$", 3)
	tells(t, "%% S : a | a | a b ;", "a/$ a/$", 3)
	tells(t, "%% S : T U ; U : T ; T : b | ;", "b?/$ b?/$ b?/$b b?/$", 5)
	tells(t, "%start T %% S : a ; T : T ;", "a/ /$ /$", 2)
	tells(t, "%% S : S ; T : ;", "/$ ?/ /$", 2)
}

// P10.2: rounds are as many when a plan is as large as may be, and its rules stand in the worst order, and in the best one.
func TestMostRounds(t *testing.T) {
	worst, best := "", ""
	for i := range api.MaxRules - 1 {
		rule := "V" + strconv.Itoa(i) + " : V" + strconv.Itoa(i+1) + " ; "
		worst, best = worst+rule, rule+best
	}
	last := "V" + strconv.Itoa(api.MaxRules-1) + " : c ; "
	for rules, rounds := range map[string]int{worst + last: api.MaxRules + 2, last + best: 3} {
		want := strings.Repeat("c/$ ", api.MaxRules) + "c/$"
		tells(t, "%start V0 %% "+rules, want, rounds)
	}
}

// P10.1: facts have all terminals that may be, rising, whatever the order in which they stand in rules.
func TestAllTokens(t *testing.T) {
	tokens, rules, want := "", "", []int{}
	for i := range api.MaxTokens {
		name := "t" + strconv.Itoa(i)
		tokens += "%token " + name + " \"" + name + "\" "
		rules = "S " + name + " | " + name + " | " + rules
		want = append(want, i+1)
	}
	p := read(t, tokens+"%% S : "+strings.TrimSuffix(rules, "| ")+";")
	f := first.Of(p)
	if !slices.Equal(f.First[0], want) || !slices.Equal(f.First[1], want) {
		t.Error(f.First)
	}
	if !slices.Equal(f.Follow[0], append([]int{0}, want...)) || !slices.Equal(f.Follow[1], []int{0}) {
		t.Error(f.Follow)
	}
}

// P10.3: a sequence goes on behind nullable symbols, and such as are none; never behind a terminal.
func TestSeq(t *testing.T) {
	p := plan(t, "%% S : T U V ; T : a | ; U : b ; V : c | ; W : W ;") // S is 4, T 5, U 6, V 7, W 8, the accepted one 9
	f := first.Of(p)
	for _, x := range []struct {
		seq      []int
		want     string
		nullable bool
	}{
		{nil, "", true},
		{[]int{}, "", true},
		{[]int{0}, "$", false},
		{[]int{1}, "a", false},
		{[]int{3, 1}, "c", false},
		{[]int{3, 5, 7, -1}, "c", false},
		{[]int{0, 1}, "$", false},
		{[]int{4}, "ab", false},
		{[]int{5}, "a", true},
		{[]int{7}, "c", true},
		{[]int{7, 5}, "ac", true},
		{[]int{5, 7, 5, 7}, "ac", true},
		{[]int{7, 0}, "$c", false},
		{[]int{7, 5, 2, 1}, "abc", false},
		{[]int{7, 6, 5}, "bc", false},
		{[]int{5, 6, 7}, "ab", false},
		{[]int{8}, "", false},
		{[]int{8, 1}, "", false},
		{[]int{7, 8, 1}, "c", false},
		{[]int{9}, "ab", false},
		{[]int{9, 3}, "ab", false},
		{[]int{10}, "", true},
		{[]int{-1, 10, 99, 1 << 40, math.MinInt, math.MaxInt}, "", true},
		{[]int{-1, 5, 10, math.MinInt, 7, math.MaxInt, 0, 10, 2}, "$ac", false},
	} {
		seq := slices.Clone(x.seq)
		l, nullable := f.Seq(p, seq)
		if letters(l) != x.want || nullable != x.nullable {
			t.Errorf("Seq of %v tells %q, %t, want %q, %t", x.seq, letters(l), nullable, x.want, x.nullable)
		}
		if !slices.Equal(seq, x.seq) {
			t.Errorf("Seq has changed %v to %v", x.seq, seq)
		}
	}
	p = plan(t, "%% S : a S | ;")
	if l, nullable := first.Of(p).Seq(p, []int{5, 2}); letters(l) != "ab" || nullable {
		t.Errorf("behind the accepted one, if it is nullable, Seq tells %v, %t", l, nullable)
	}
}

// R5, and the language's rule 7: no call changes a plan, or facts; whoever changes an answer changes nothing else.
func TestApart(t *testing.T) {
	rules := "%% S : T T ; T : a | b | ;"
	p := plan(t, rules)
	want := "ab?/$ ab?/$ab ab?/$"
	var all []first.Facts
	for range 3 {
		all = append(all, first.Of(p))
	}
	for _, l := range append(slices.Clone(all[0].First), all[0].Follow...) {
		clear(l)
		_ = append(l, 3, 3, 3)
	}
	clear(all[0].Nullable)
	l, _ := all[1].Seq(p, []int{5})
	clear(l)
	_ = append(l, 3, 3, 3)
	for i := range all[1].First {
		was := letters(all[1].Follow[i])
		clear(all[1].First[i])
		if s := letters(all[1].Follow[i]); s != was {
			t.Errorf("Follow of %d was %q, and is %q", i, was, s)
		}
	}
	if s := shown(all[2]); s != want {
		t.Errorf("the facts are %q, want %q", s, want)
	}
	tells(t, rules, want, 4)
	for i, r := range plan(t, rules).Rules {
		if r.Left != p.Rules[i].Left || !slices.Equal(r.Right, p.Rules[i].Right) {
			t.Errorf("rule %d is %v now", i, p.Rules[i])
		}
	}
}
