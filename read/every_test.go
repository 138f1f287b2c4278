package read_test

import (
	"math/rand"
	"slices"
	"strings"
	"testing"

	"coney/api"
	"coney/lex"
	"coney/read"
)

// everyWord is a word of each sort that the chapter tells apart.
func everyWord() []string {
	return []string{
		`a`, `f(`, `-(`, `=(`, `X`, `Y`, `_`, `1`, `-1`, `9223372036854775808`, `-9223372036854775809`,
		`-`, `:-`, `\+`, `=`, `;`, `^`, `','`, `(`, `)`, `[`, `]`, `{`, `}`, `,`, `|`, `')'`, `.`,
	}
}

// everyText tells each text of up to n of the words, blanks between.
func everyText(t *testing.T, words []string, n int, each func(s string)) {
	t.Helper()
	var longer func(s string, n int)
	longer = func(s string, n int) {
		each(s)
		if n == 0 || t.Failed() {
			return
		}
		for _, w := range words {
			longer(s+" "+w, n-1)
		}
	}
	longer("", n)
}

// proper tells whether nothing stands in a field that its Kind does not have.
func proper(t api.Term) bool {
	switch t.Kind {
	case api.Var, api.Int:
		return t.Name == "" && t.Args == nil
	case api.Atom:
		return t.N == 0 && t.Args == nil
	}
	return t.Kind == api.Cmp && t.N == 0 && len(t.Args) > 0 && !slices.ContainsFunc(t.Args, func(x api.Term) bool { return !proper(x) })
}

// variables gathers the numbers of a term's variables, as they come.
func variables(t api.Term, l []int) []int {
	if t.Kind == api.Var {
		return append(l, t.N)
	}
	for _, x := range t.Args {
		l = variables(x, l)
	}
	return l
}

// numbered tells whether the variables' numbers are 0, 1 and so on, by where they come first, each with a name, and no name but `_` twice.
func numbered(x api.Sentence) bool {
	n := 0
	for _, v := range variables(x.Term, nil) {
		if v > n || v < 0 {
			return false
		}
		if v == n {
			n++
		}
	}
	for i, name := range x.Names {
		if name == "" || name != "_" && slices.Contains(x.Names[:i], name) {
			return false
		}
	}
	return n == len(x.Names)
}

// isRight checks sentences that were read of these tokens.
func isRight(t *testing.T, s string, tokens []api.Token, l []api.Sentence, place int) {
	t.Helper()
	ends := 0
	for _, k := range tokens {
		if k.Kind == api.TEnd {
			ends++
		}
	}
	if place != 0 || len(l) != ends || len(tokens) > 0 && tokens[len(tokens)-1].Kind != api.TEnd {
		t.Errorf("Read(%q) = %s, %d", s, toldAll(l), place)
	}
	for _, x := range l {
		if !proper(x.Term) || !numbered(x) {
			t.Errorf("Read(%q) tells %s", s, told(x))
		}
	}
}

// isFirst checks that an error stays where it is, whatever comes behind its token.
func isFirst(t *testing.T, s string, k api.Token, e api.Errno) {
	t.Helper()
	if isBig := k.Kind == api.TInt && len(k.Text) > 18; e == api.ErrBig && !isBig {
		t.Errorf("Read(%q) = %d, %d", s, k.From, e)
	}
	for _, behind := range []string{"", " (", " ) .", " a", " = ."} {
		cut := s[:k.To] + behind
		if _, place, cutE := read.Read(cut); place != k.From || cutE != e {
			t.Errorf("Read(%q) = %d, %d, but of %q %d, %d", s, k.From, e, cut, place, cutE)
		}
	}
}

// TestEveryText is P5.1 of all short texts: what comes is proper; an error has its place at a token, or at the end; and it is the first from the left.
func TestEveryText(t *testing.T) {
	check := func(s string) {
		tokens, _, _ := lex.Tokens(s)
		l, place, e := read.Read(s)
		if e == api.OK {
			isRight(t, s, tokens, l, place)
			return
		}
		at := slices.IndexFunc(tokens, func(k api.Token) bool { return k.From == place })
		if l != nil || at < 0 && place != len(s) || e != api.ErrSyntax && e != api.ErrBig {
			t.Errorf("Read(%q) = %s, %d, %d", s, toldAll(l), place, e)
		}
		if at >= 0 {
			isFirst(t, s, tokens[at], e)
		}
	}
	everyText(t, everyWord(), 3, check)
	everyText(t, []string{`a`, `f(`, `X`, `-`, `=`, `(`, `)`, `[`, `]`, `,`, `.`}, 5, check)
}

// TestWhatFollows is P5.3: two texts with a line feed between are both's sentences.
func TestWhatFollows(t *testing.T) {
	var texts []string
	everyText(t, []string{`a`, `X`, `_`, `-`, `1`, `f(`, `)`, `.`, "% a.\n"}, 4, func(s string) {
		if _, _, e := read.Read(s); e == api.OK {
			texts = append(texts, s)
		}
	})
	texts = append(texts, "", " ", "% a", "a. % b", "a.%", "/* a. */", "'.'.", "p(X):-q(X,Y).", "a :- b, c. a.", "[X|X].", "-1.", "a- -1.")
	for _, a := range texts {
		for _, b := range texts {
			first, _, _ := read.Read(a)
			second, _, _ := read.Read(b)
			both, place, e := read.Read(a + "\n" + b)
			if toldAll(both) != toldAll(append(first, second...)) || place != 0 || e != api.OK {
				t.Errorf("Read(%q) = %s, %d, %d", a+"\n"+b, toldAll(both), place, e)
			}
		}
	}
	if len(texts) < 50 {
		t.Errorf("only %d texts", len(texts))
	}
}

// TestTotal is R1 and R2 at texts without sense: calls end, and beside an error there is nothing else.
func TestTotal(t *testing.T) {
	rows := rand.New(rand.NewSource(7))
	words := append(everyWord(), "\n", " ", "% ", "/* ", "*/ ", "'", "\x00", "\xff", "..", "is", "f", "((((((((", "[[[[[[[[", "- - - - ")
	for range 5000 {
		var s strings.Builder
		for range rows.Intn(200) {
			s.WriteString(words[rows.Intn(len(words))])
			s.WriteString([]string{" ", "", "\n"}[rows.Intn(3)])
		}
		l, place, e := read.Read(s.String())
		if e != api.OK && l != nil || e == api.OK && place != 0 || place < 0 || place > s.Len() {
			t.Errorf("Read(%q) = %s, %d, %d", s.String(), toldAll(l), place, e)
		}
		one, place, e := read.One(s.String())
		if e != api.OK && !isZero(one) || e == api.OK && place != 0 || place < 0 || place > s.Len() {
			t.Errorf("One(%q) = %s, %d, %d", s.String(), told(one), place, e)
		}
	}
}
