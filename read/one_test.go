package read_test

import (
	"strings"
	"testing"

	"coney/api"
	"coney/read"
)

func checkOne(t *testing.T, rows []good) {
	t.Helper()
	for _, x := range rows {
		one, place, e := read.One(x.s)
		if got := told(one); got != x.want || place != 0 || e != api.OK {
			t.Errorf("One(%s) = %s, %d, %d; want %s", brief(x.s), got, place, e, x.want)
		}
	}
}

// isZero tells whether a sentence is the zero one, as it has to be beside an error.
func isZero(x api.Sentence) bool {
	return x.Term.Kind == 0 && x.Term.N == 0 && x.Term.Name == "" && x.Term.Args == nil && x.Names == nil
}

func checkNotOne(t *testing.T, rows []bad) {
	t.Helper()
	for _, x := range rows {
		one, place, e := read.One(x.s)
		if !isZero(one) || place != x.place || e != x.e {
			t.Errorf("One(%s) = %s, %d, %d; want none, %d, %d", brief(x.s), told(one), place, e, x.place, x.e)
		}
	}
}

// TestOne is P5.2: one sentence, with its end or without.
func TestOne(t *testing.T) {
	checkOne(t, []good{
		{`a`, `a`},
		{`a.`, `a`},
		{`a .`, `a`},
		{" a . \n", `a`},
		{`a. % b`, `a`},
		{`a.%`, `a`},
		{`a. /* b */`, `a`},
		{"% b\na", `a`},
		{`a /* b. */`, `a`},
		{"a % b\n", `a`},
		{`X`, `_0 X`},
		{`p(X), q(X,_)`, `,(p(_0),q(_0,_1)) X _`},
		{`a:-b,c`, `:-(a,,(b,c))`},
		{`a:-b,c.`, `:-(a,,(b,c))`},
		{`-`, `-`},
		{`a = -`, `=(a,-)`},
		{`= = =`, `=(=,=)`},
		{`'.'`, `.`},
		{`a = '.'`, `=(a,.)`},
		{`[a|T]`, `.(a,_0) T`},
		{`-9223372036854775808`, `-9223372036854775808`},
		{strings.Repeat("(", api.MaxDepth) + "a" + strings.Repeat(")", api.MaxDepth), `a`},
		{strings.Repeat(" ", api.MaxText-3) + "a", `a`},
		{strings.Repeat(" ", api.MaxText-2) + "a.", `a`},
	})
}

// TestNotOne is P5.2: none and several sentences, and what is wrong within, its place never behind the text.
func TestNotOne(t *testing.T) {
	checkNotOne(t, []bad{
		// No sentence.
		{``, 0, api.ErrSyntax},
		{` `, 1, api.ErrSyntax},
		{"\n\t ", 3, api.ErrSyntax},
		{`%`, 1, api.ErrSyntax},
		{`% a.`, 4, api.ErrSyntax},
		{"% a.\n", 5, api.ErrSyntax},
		{`/* a. */`, 8, api.ErrSyntax},
		{`.`, 0, api.ErrSyntax},
		// A remark at the end takes the end in.
		{`a %`, 3, api.ErrSyntax},
		{`a % b.`, 6, api.ErrSyntax},
		{`p(X) % b`, 8, api.ErrSyntax},
		{`a. b % c`, 8, api.ErrSyntax},
		// Several sentences.
		{`a. b`, 4, api.ErrSyntax},
		{`a. b.`, 5, api.ErrSyntax},
		{`a. b. c`, 7, api.ErrSyntax},
		{`a. b. % c`, 9, api.ErrSyntax},
		{"a.\nb.\n", 6, api.ErrSyntax},
		// What is wrong within.
		{`a b`, 2, api.ErrSyntax},
		{`a b.`, 2, api.ErrSyntax},
		{`a. b c`, 5, api.ErrSyntax},
		{`a. )`, 3, api.ErrSyntax},
		{`a. .`, 3, api.ErrSyntax},
		{`f(a,).`, 4, api.ErrSyntax},
		{`a= .`, 3, api.ErrSyntax},
		{`f(9223372036854775808)`, 2, api.ErrBig},
		{`-9223372036854775809`, 1, api.ErrBig},
		{strings.Repeat("(", 99), api.MaxDepth + 1, api.ErrDeep},
		// What is wrong at the end that was not there.
		{`f(`, 2, api.ErrSyntax},
		{`f( `, 3, api.ErrSyntax},
		{`f(a`, 3, api.ErrSyntax},
		{`a=`, 2, api.ErrSyntax},
		{`a=.`, 1, api.ErrSyntax},
		{`a,`, 2, api.ErrSyntax},
		{`a, /* b */ `, 11, api.ErrSyntax},
		{`[a|`, 3, api.ErrSyntax},
		{`a. f(`, 5, api.ErrSyntax},
		{strings.Repeat("(", api.MaxDepth), api.MaxDepth, api.ErrSyntax},
		{strings.Repeat("(", api.MaxDepth+1), api.MaxDepth + 1, api.ErrDeep},
		{strings.Repeat("[", api.MaxDepth+1) + "  ", api.MaxDepth + 3, api.ErrDeep},
		// lex.Tokens' own.
		{`a "`, 2, api.ErrChar},
		{`a) '`, 3, api.ErrQuote},
		{`/*`, 0, api.ErrQuote},
		{`a. '\x'`, 4, api.ErrEscape},
		{`'\`, 0, api.ErrQuote},
		{strings.Repeat("a", api.MaxText+1), 0, api.ErrLong},
		{strings.Repeat(" ", api.MaxText-2) + `"a`, api.MaxText - 2, api.ErrChar},
		{strings.Repeat(" ", api.MaxText-1) + `.`, api.MaxText - 1, api.ErrSyntax},
	})
}

// TestOneAtLimits is P5.2: the blank and the `.` count among MaxText bytes and MaxTokens tokens, where they are put behind.
func TestOneAtLimits(t *testing.T) {
	checkOne(t, []good{{strings.Repeat("a", api.MaxText-2), strings.Repeat("a", api.MaxText-2)}})
	checkNotOne(t, []bad{
		{strings.Repeat("a", api.MaxText-1), 0, api.ErrLong},
		{strings.Repeat("a", api.MaxText), 0, api.ErrLong},
	})
	if one, place, e := read.One(strings.Repeat("a", api.MaxText-1) + "."); len(one.Term.Name) != api.MaxText-1 || place != 0 || e != api.OK {
		t.Errorf("a text of MaxText bytes with its end: %d, %d", place, e)
	}
	row := `[a` + strings.Repeat(",a", (api.MaxTokens-4)/2) // two tokens less than MaxTokens
	if one, place, e := read.One(row + `]`); one.Term.Name != "." || place != 0 || e != api.OK {
		t.Errorf("as many tokens as may be: %d, %d", place, e)
	}
	n := len(row)
	checkNotOne(t, []bad{
		{row + `-]`, n + 2, api.ErrMany}, // at the `.`
		{row + `-] %`, n + 1, api.ErrSyntax},
		{row + `-] `, n + 3, api.ErrMany},
		{row + `-].`, n + 2, api.ErrMany},
		{row + `-a]`, n + 2, api.ErrMany},
	})
}

// TestOneByRead is P5.2: at all short texts of tokens what Read tells decides.
func TestOneByRead(t *testing.T) {
	everyText(t, everyWord(), 3, func(s string) {
		whole := s
		if !strings.HasSuffix(s, " .") {
			whole += " ."
		}
		l, place, e := read.Read(whole)
		want := api.Sentence{}
		switch {
		case e != api.OK:
			place = min(place, len(s))
		case len(l) != 1:
			place, e = len(s), api.ErrSyntax
		default:
			want = l[0]
		}
		one, gotPlace, gotE := read.One(s)
		if told(one) != told(want) || gotPlace != place || gotE != e || e != api.OK && !isZero(one) {
			t.Errorf("One(%s) = %s, %d, %d; want %s, %d, %d", brief(s), told(one), gotPlace, gotE, told(want), place, e)
		}
	})
}
