package lex_test

import (
	"slices"
	"strconv"
	"strings"
	"testing"

	"coney/api"
	"coney/lex"
)

func kindName(kind int) string {
	switch kind {
	case api.TAtom:
		return "atom"
	case api.TVar:
		return "var"
	case api.TInt:
		return "int"
	case api.TOpen:
		return "open"
	case api.TMark:
		return "mark"
	case api.TEnd:
		return "end"
	}
	return "kind" + strconv.Itoa(kind)
}

// show tells each token as its kind, its text and its places; the text stands as it is where it can't be mistaken.
func show(tokens []api.Token) string {
	var l []string
	for _, x := range tokens {
		text := x.Text
		if text == "" || strings.ContainsAny(text, " \t\r\n") {
			text = strconv.Quote(text)
		}
		l = append(l, kindName(x.Kind)+" "+text+" "+strconv.Itoa(x.From)+" "+strconv.Itoa(x.To))
	}
	return strings.Join(l, "; ")
}

type good struct{ s, want string }

func checkGood(t *testing.T, rows []good) {
	t.Helper()
	for _, x := range rows {
		tokens, place, e := lex.Tokens(x.s)
		if got := show(tokens); got != x.want || place != 0 || e != api.OK {
			t.Errorf("Tokens(%q) = %s, %d, %d; want %s", x.s, got, place, e, x.want)
		}
	}
}

type bad struct {
	s     string
	place int
	e     api.Errno
}

// brief is a text in quotes, a long one without its middle.
func brief(s string) string {
	if len(s) < 80 {
		return strconv.Quote(s)
	}
	return strconv.Quote(s[:20]) + ".." + strconv.Quote(s[len(s)-20:])
}

func checkBad(t *testing.T, rows []bad) {
	t.Helper()
	for _, x := range rows {
		tokens, place, e := lex.Tokens(x.s)
		if len(tokens) != 0 || place != x.place || e != x.e {
			t.Errorf("Tokens(%s) = %d tokens, %d, %d; want none, %d, %d", brief(x.s), len(tokens), place, e, x.place, x.e)
		}
	}
}

// TestExamples is P3.1: the chapter's own rows, with their places.
func TestExamples(t *testing.T) {
	checkGood(t, []good{
		{`foo(X) :- 'it''s'.`, `atom foo 0 3; open ( 3 4; var X 4 5; mark ) 5 6; atom :- 7 9; atom it's 10 17; end . 17 18`},
		{`a.b`, `atom a 0 1; atom . 1 2; atom b 2 3`},
		{`a. b`, `atom a 0 1; end . 1 2; atom b 3 4`},
		{`f(\x)`, `atom f 0 1; open ( 1 2; atom \ 2 3; atom x 3 4; mark ) 4 5`},
	})
	checkBad(t, []bad{{`'a`, 0, api.ErrQuote}})
}

// TestWords is P3.1: names, variables, integers, signs and single bytes, each as long as it may be.
func TestWords(t *testing.T) {
	checkGood(t, []good{
		{``, ``},
		{`a`, `atom a 0 1`},
		{`aZ_09z`, `atom aZ_09z 0 6`},
		{`Az_09Z`, `var Az_09Z 0 6`},
		{`_`, `var _ 0 1`},
		{`_a _1 __`, `var _a 0 2; var _1 3 5; var __ 6 8`},
		{`0`, `int 0 0 1`},
		{`007`, `int 007 0 3`},
		{`12a`, `int 12 0 2; atom a 2 3`},
		{`12A_`, `int 12 0 2; var A_ 2 4`},
		{`1_000`, `int 1 0 1; var _000 1 5`},
		{`0x1f`, `int 0 0 1; atom x1f 1 4`},
		{`-1`, `atom - 0 1; int 1 1 2`},
		{`1.5`, `int 1 0 1; atom . 1 2; int 5 2 3`},
		{`99999999999999999999`, `int 99999999999999999999 0 20`},
		{`+-*/\^<>=:.?@#$&~`, `atom +-*/\^<>=:.?@#$&~ 0 17`},
		{`a:-b,c.`, `atom a 0 1; atom :- 1 3; atom b 3 4; mark , 4 5; atom c 5 6; end . 6 7`},
		{`X#>=Y`, `var X 0 1; atom #>= 1 4; var Y 4 5`},
		{`!;!`, `atom ! 0 1; atom ; 1 2; atom ! 2 3`},
		{`;;`, `atom ; 0 1; atom ; 1 2`},
		{`-;-`, `atom - 0 1; atom ; 1 2; atom - 2 3`},
		{`()[]{},|`, `mark ( 0 1; mark ) 1 2; mark [ 2 3; mark ] 3 4; mark { 4 5; mark } 5 6; mark , 6 7; mark | 7 8`},
		{`||,,`, `mark | 0 1; mark | 1 2; mark , 2 3; mark , 3 4`},
		{`[a|T]`, `mark [ 0 1; atom a 1 2; mark | 2 3; var T 3 4; mark ] 4 5`},
	})
}

// TestEnd is P3.1: a `.` is an end just where a blank, a `%` or the end is behind it, and no other sign ahead.
func TestEnd(t *testing.T) {
	checkGood(t, []good{
		{`.`, `end . 0 1`},
		{`. `, `end . 0 1`},
		{".\t", `end . 0 1`},
		{".\n", `end . 0 1`},
		{".\r", `end . 0 1`},
		{`.%`, `end . 0 1`},
		{`.%.`, `end . 0 1`},
		{`. .`, `end . 0 1; end . 2 3`},
		{`..`, `atom .. 0 2`},
		{`.. `, `atom .. 0 2`},
		{`a=. `, `atom a 0 1; atom =. 1 3`},
		{`1..9.`, `int 1 0 1; atom .. 1 3; int 9 3 4; end . 4 5`},
		{`'a'.`, `atom a 0 3; end . 3 4`},
		{`!.`, `atom ! 0 1; end . 1 2`},
		{`.a`, `atom . 0 1; atom a 1 2`},
		{`.A`, `atom . 0 1; var A 1 2`},
		{`.1`, `atom . 0 1; int 1 1 2`},
		{`.'b'`, `atom . 0 1; atom b 1 4`},
		{`.(a`, `atom . 0 1; open ( 1 2; atom a 2 3`},
		{`.)`, `atom . 0 1; mark ) 1 2`},
		{`.!`, `atom . 0 1; atom ! 1 2`},
		{`./**/`, `atom ./**/ 0 5`},
		{`. (`, `end . 0 1; mark ( 2 3`},
		{".%\n(", `end . 0 1; mark ( 3 4`},
	})
	for b := range 256 {
		tokens, place, e := lex.Tokens("a." + string([]byte{byte(b)}))
		ends := b == ' ' || b == '\t' || b == '\n' || b == '\r' || b == '%'
		if got := e == api.OK && show(tokens) == "atom a 0 1; end . 1 2"; got != ends {
			t.Errorf("a `.` with the byte %d behind it: %s, %d, %d", b, show(tokens), place, e)
		}
	}
}

// TestOpen is P3.1: a `(` is an open one right behind an atom of any form, and behind nothing else.
func TestOpen(t *testing.T) {
	checkGood(t, []good{
		{`(`, `mark ( 0 1`},
		{`((`, `mark ( 0 1; mark ( 1 2`},
		{`f((`, `atom f 0 1; open ( 1 2; mark ( 2 3`},
		{`f (`, `atom f 0 1; mark ( 2 3`},
		{"f\n(", `atom f 0 1; mark ( 2 3`},
		{`f/**/(`, `atom f 0 1; mark ( 5 6`},
		{"f%\n(", `atom f 0 1; mark ( 3 4`},
		{`'f'(`, `atom f 0 3; open ( 3 4`},
		{`'f' (`, `atom f 0 3; mark ( 4 5`},
		{`''(`, `atom "" 0 2; open ( 2 3`},
		{`-(`, `atom - 0 1; open ( 1 2`},
		{`- (`, `atom - 0 1; mark ( 2 3`},
		{`!(`, `atom ! 0 1; open ( 1 2`},
		{`;(`, `atom ; 0 1; open ( 1 2`},
		{`X(`, `var X 0 1; mark ( 1 2`},
		{`_(`, `var _ 0 1; mark ( 1 2`},
		{`1(`, `int 1 0 1; mark ( 1 2`},
		{`)(`, `mark ) 0 1; mark ( 1 2`},
		{`](`, `mark ] 0 1; mark ( 1 2`},
		{`}(`, `mark } 0 1; mark ( 1 2`},
		{`,(`, `mark , 0 1; mark ( 1 2`},
		{`|(`, `mark | 0 1; mark ( 1 2`},
		{`f[`, `atom f 0 1; mark [ 1 2`},
		{`f{`, `atom f 0 1; mark { 1 2`},
		{`f)`, `atom f 0 1; mark ) 1 2`},
	})
}

// TestBetween is P3.1: blanks and comments, and what looks like a comment but stands within a token.
func TestBetween(t *testing.T) {
	checkGood(t, []good{
		{" \t\n\r", ``},
		{"a \t\n\rb", `atom a 0 1; atom b 5 6`},
		{`%`, ``},
		{`% a 'b "`, ``},
		{"a%b\nc", `atom a 0 1; atom c 4 5`},
		{"a%b\rc", `atom a 0 1`},
		{"%\n%\n", ``},
		{"% /*\na", `atom a 5 6`},
		{"%\x00\x80\xff\na", `atom a 5 6`},
		{`/**/`, ``},
		{`a/**/b`, `atom a 0 1; atom b 5 6`},
		{`/* ' " % */a`, `atom a 11 12`},
		{"/*\n\x00\xff*/a", `atom a 7 8`},
		{`/***/a`, `atom a 5 6`},
		{`/* /* */a`, `atom a 8 9`},
		{`/* */ */a`, `atom */ 6 8; atom a 8 9`},
		{`/*/ */a`, `atom a 6 7`},
		{`/**//**/a`, `atom a 8 9`},
		{`/**/%a`, ``},
		{"/*%*/a", `atom a 5 6`},
		{`1/**/2`, `int 1 0 1; int 2 5 6`},
		{`X/* */Y`, `var X 0 1; var Y 6 7`},
		{`'/*'`, `atom /* 0 4`},
		{`'%'`, `atom % 0 3`},
		{`+/*`, `atom +/* 0 3`},
		{`+/**/a`, `atom +/**/ 0 5; atom a 5 6`},
		{`+%a`, `atom + 0 1`},
		{`//* */`, `atom //* 0 3; atom */ 4 6`},
		{`/ * */`, `atom / 0 1; atom * 2 3; atom */ 4 6`},
		{`/`, `atom / 0 1`},
		{`*/`, `atom */ 0 2`},
	})
	checkBad(t, []bad{
		{`/*`, 0, api.ErrQuote},
		{`/*/`, 0, api.ErrQuote},
		{`/* *`, 0, api.ErrQuote},
		{`/* * /`, 0, api.ErrQuote},
		{`a /*`, 2, api.ErrQuote},
		{`a/* b`, 1, api.ErrQuote},
		{`/**/ /*`, 5, api.ErrQuote},
		{"% /* */\n /*", 9, api.ErrQuote},
		{`/* " '`, 0, api.ErrQuote},
	})
}

// TestQuotes is P3.1: what stands in quotes, and what may not.
func TestQuotes(t *testing.T) {
	checkGood(t, []good{
		{`''`, `atom "" 0 2`},
		{`''''`, `atom ' 0 4`},
		{`''''''`, `atom '' 0 6`},
		{`'a'`, `atom a 0 3`},
		{`'a b'`, `atom "a b" 0 5`},
		{`'a''b'`, `atom a'b 0 6`},
		{`'a' 'b'`, `atom a 0 3; atom b 4 7`},
		{`'a'b`, `atom a 0 3; atom b 3 4`},
		{`a'b'`, `atom a 0 1; atom b 1 4`},
		{`'X'`, `atom X 0 3`},
		{`'1'`, `atom 1 0 3`},
		{`'.' `, `atom . 0 3`},
		{`','`, `atom , 0 3`},
		{`'('`, `atom ( 0 3`},
		{`'\n'`, `atom "\n" 0 4`},
		{`'\t'`, `atom "\t" 0 4`},
		{`'\\'`, `atom \ 0 4`},
		{`'\''`, `atom ' 0 4`},
		{`'\''''`, `atom '' 0 6`},
		{`'''\''`, `atom '' 0 6`},
		{`'\\n'`, `atom \n 0 5`},
		{`'\\\''`, `atom \' 0 6`},
		{`'a\nb\tc\\d\'e''f'`, `atom "a\nb\tc\\d'e'f" 0 18`},
	})
	checkBad(t, []bad{
		{`'`, 0, api.ErrQuote},
		{`'''`, 0, api.ErrQuote},
		{`'a''`, 0, api.ErrQuote},
		{`'''''`, 0, api.ErrQuote},
		{`a 'b`, 2, api.ErrQuote},
		{`'a' 'b`, 4, api.ErrQuote},
		{`'a'' b`, 0, api.ErrQuote},
		{`'\'`, 0, api.ErrQuote},
		{`'\'''`, 0, api.ErrQuote},
		{`'\`, 0, api.ErrQuote},
		{`a 'b\`, 2, api.ErrQuote},
		{`'\\`, 0, api.ErrQuote},
		{`'% /* `, 0, api.ErrQuote},
		{`'a\b'`, 2, api.ErrEscape},
		{`'\N'`, 1, api.ErrEscape},
		{`'\x`, 1, api.ErrEscape},
		{`'\ '`, 1, api.ErrEscape},
		{"'\\\n'", 1, api.ErrEscape},
		{"'\\\xff'", 1, api.ErrEscape},
		{`'\\\x'`, 3, api.ErrEscape},
		{`'''\x'`, 3, api.ErrEscape},
		{"'\n'", 1, api.ErrChar},
		{"'\t'", 1, api.ErrChar},
		{"'\r'", 1, api.ErrChar},
		{"'a\x00", 2, api.ErrChar},
		{"'ab\x7f'", 3, api.ErrChar},
		{"'\xc3\xa4'", 1, api.ErrChar},
		{"'''\x1f'", 3, api.ErrChar},
		{"'\\n\x1f'", 3, api.ErrChar},
	})
}

// TestFirstWrong is P3.1: of several things wrong the one that is met first.
func TestFirstWrong(t *testing.T) {
	checkBad(t, []bad{
		{`"`, 0, api.ErrChar},
		{`a "b"`, 2, api.ErrChar},
		{"a`", 1, api.ErrChar},
		{"a\x00", 1, api.ErrChar},
		{"a\x7f", 1, api.ErrChar},
		{"\xc3\xa4", 0, api.ErrChar},
		{"a\u00e4", 1, api.ErrChar},
		{"\v", 0, api.ErrChar},
		{"\f", 0, api.ErrChar},
		{`" '`, 0, api.ErrChar},
		{`' "`, 0, api.ErrQuote},
		{`'a' " 'b`, 4, api.ErrChar},
		{`'\x' "`, 1, api.ErrEscape},
		{"'\x01\\x'", 1, api.ErrChar},
		{"'\\x\x01'", 1, api.ErrEscape},
		{`/* ' " \x`, 0, api.ErrQuote},
		{"/**/\x01", 4, api.ErrChar},
		{"%\x01\n\x02", 3, api.ErrChar},
		{`'a /*`, 0, api.ErrQuote},
	})
}

// TestBytes is P3.1 of each single byte: alone, in quotes, and behind a `\` there.
func TestBytes(t *testing.T) {
	const signs = `+-*/\^<>=:.?@#$&~`
	for b := range 256 {
		s := string([]byte{byte(b)})
		letter, isDigit := b|32 >= 'a' && b|32 <= 'z', b >= '0' && b <= '9'
		want, wantE := "", api.ErrChar
		switch {
		case strings.Contains(" \t\n\r%", s):
			wantE = api.OK
		case s == "'":
			wantE = api.ErrQuote
		case s == ".":
			want, wantE = "end . 0 1", api.OK
		case s >= "a" && letter, strings.Contains(signs+"!;", s):
			want, wantE = "atom "+s+" 0 1", api.OK
		case letter, s == "_":
			want, wantE = "var "+s+" 0 1", api.OK
		case isDigit:
			want, wantE = "int "+s+" 0 1", api.OK
		case strings.Contains("()[]{},|", s):
			want, wantE = "mark "+s+" 0 1", api.OK
		}
		tokens, place, e := lex.Tokens(s)
		if show(tokens) != want || place != 0 || e != wantE {
			t.Errorf("Tokens(%q) = %s, %d, %d; want %s, 0, %d", s, show(tokens), place, e, want, wantE)
		}
		inQuotes(t, b, s)
		escaped(t, s)
	}
}

func inQuotes(t *testing.T, b int, s string) {
	t.Helper()
	tokens, place, e := lex.Tokens("'a" + s + "b'")
	switch {
	case b < 32 || b > 126:
		if len(tokens) != 0 || place != 2 || e != api.ErrChar {
			t.Errorf("the byte %d in quotes: %s, %d, %d", b, show(tokens), place, e)
		}
	case s == "'" || s == `\`:
		if len(tokens) != 0 || e == api.OK || e == api.ErrChar {
			t.Errorf("the byte %d in quotes: %s, %d, %d", b, show(tokens), place, e)
		}
	default:
		want := []api.Token{{Kind: api.TAtom, Text: "a" + s + "b", From: 0, To: 5}}
		if !slices.Equal(tokens, want) || place != 0 || e != api.OK {
			t.Errorf("the byte %d in quotes: %s, %d, %d", b, show(tokens), place, e)
		}
	}
}

func escaped(t *testing.T, s string) {
	t.Helper()
	tokens, place, e := lex.Tokens(`'a\` + s + `b'`)
	text := ""
	switch s {
	case "n":
		text = "a\nb"
	case "t":
		text = "a\tb"
	case `\`, "'":
		text = "a" + s + "b"
	default:
		if len(tokens) != 0 || place != 2 || e != api.ErrEscape {
			t.Errorf("%q behind a `\\`: %s, %d, %d", s, show(tokens), place, e)
		}
		return
	}
	want := []api.Token{{Kind: api.TAtom, Text: text, From: 0, To: 6}}
	if !slices.Equal(tokens, want) || place != 0 || e != api.OK {
		t.Errorf("%q behind a `\\`: %s, %d, %d", s, show(tokens), place, e)
	}
}

// TestLong is P3.1: ErrLong, ahead of all else, beyond MaxText bytes, and not at them.
func TestLong(t *testing.T) {
	most := strings.Repeat("a", api.MaxText)
	for _, x := range []struct{ s, text string }{
		{most, most},
		{"'" + most[2:] + "'", most[2:]},
		{"a" + strings.Repeat(" ", api.MaxText-1), "a"},
		{"/*" + most[5:] + "*/a", "a"},
		{most[1:] + "%", most[1:]},
	} {
		tokens, place, e := lex.Tokens(x.s)
		if len(tokens) != 1 || tokens[0].Kind != api.TAtom || tokens[0].Text != x.text || place != 0 || e != api.OK {
			t.Errorf("Tokens(%s) = %d tokens, %d, %d", brief(x.s), len(tokens), place, e)
		}
		checkBad(t, []bad{{x.s + " ", 0, api.ErrLong}, {x.s + most, 0, api.ErrLong}})
	}
	checkBad(t, []bad{
		{strings.Repeat(" ", api.MaxText+1), 0, api.ErrLong},
		{strings.Repeat("\x00", api.MaxText+1), 0, api.ErrLong},
		{strings.Repeat("'", api.MaxText+1), 0, api.ErrLong},
		{strings.Repeat("!", api.MaxText+1), 0, api.ErrLong},
		{strings.Repeat("a", 1<<20), 0, api.ErrLong},
		{strings.Repeat("a ", api.MaxText/2-1) + `"`, 2 * api.MaxTokens, api.ErrMany},
		{strings.Repeat(" ", api.MaxText-1) + `"`, api.MaxText - 1, api.ErrChar},
		{strings.Repeat(" ", api.MaxText-1) + `'`, api.MaxText - 1, api.ErrQuote},
		{strings.Repeat(" ", api.MaxText-2) + `/*`, api.MaxText - 2, api.ErrQuote},
		{"'" + strings.Repeat(" ", api.MaxText-1), 0, api.ErrQuote},
	})
}

// TestMany is P3.1: ErrMany where the token begins that is one too many, whatever it holds, but not at what is no token.
func TestMany(t *testing.T) {
	const n = api.MaxTokens
	for _, all := range []string{
		strings.Repeat("!", n),
		strings.Repeat("a ", n),
		strings.Repeat("X,", n/2),
		strings.Repeat("1 ", n-1) + "'\\n'",
		strings.Repeat("(", n-1) + ". ",
	} {
		at := len(all)
		for _, tail := range []string{"", " ", "%!", "%'", " /* ! */", "\n"} {
			tokens, place, e := lex.Tokens(all + tail)
			if len(tokens) != n || place != 0 || e != api.OK {
				t.Errorf("Tokens(%s) = %d tokens, %d, %d", brief(all+tail), len(tokens), place, e)
			}
		}
		for _, one := range []string{"a", "X", "_", "1", "=", "!", ";", "(", ")", "|", ".", "'a'", "'", `'\x'`, "'\x00", "''"} {
			checkBad(t, []bad{
				{all + " " + one, at + 1, api.ErrMany},
				{all + "/**/" + one, at + 4, api.ErrMany},
				{all + "\n " + one + ` "`, at + 2, api.ErrMany},
			})
		}
		checkBad(t, []bad{
			{all + ` "`, at + 1, api.ErrChar},
			{all + "\n\x00a", at + 1, api.ErrChar},
			{all + " /*", at + 1, api.ErrQuote},
			{all + " a /*", at + 1, api.ErrMany},
		})
	}
	checkBad(t, []bad{
		{strings.Repeat("!", n+1), n, api.ErrMany},
		{strings.Repeat("!", n) + "(", n, api.ErrMany},
		{strings.Repeat("!", n-1) + "'", n - 1, api.ErrQuote},
		{strings.Repeat("!", n-1) + `'\x'!`, n, api.ErrEscape},
	})
}

// TestNewMemory is R3 and R5: no answer is part of another, its spare room neither, and calls in between count for nothing.
func TestNewMemory(t *testing.T) {
	const s = `foo(X) :- 'it''s', Y = [1|Z].`
	first, _, _ := lex.Tokens(s)
	want := slices.Clone(first)
	lex.Tokens(`'a`)
	lex.Tokens(`g(1). h.`)
	lex.Quote("a b")
	second, place, e := lex.Tokens(s)
	if !slices.Equal(second, want) || place != 0 || e != api.OK {
		t.Errorf("a second call answers %s, %d, %d", show(second), place, e)
	}
	whole := first[:cap(first)]
	for i := range whole {
		whole[i] = api.Token{Kind: -1, Text: "spoilt", From: -1, To: -1}
	}
	third, _, _ := lex.Tokens(s)
	if !slices.Equal(second, want) || !slices.Equal(third, want) {
		t.Errorf("an answer was written over, and others became %s, %s", show(second), show(third))
	}
}
