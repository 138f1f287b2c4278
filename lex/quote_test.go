package lex_test

import (
	"strings"
	"testing"

	"coney/api"
	"coney/lex"
)

// TestQuote is P3.2.
func TestQuote(t *testing.T) {
	for _, x := range []struct{ name, want string }{
		{`a`, `a`},
		{`foo_Bar9`, `foo_Bar9`},
		{`+`, `+`},
		{`:-`, `:-`},
		{`\`, `\`},
		{`=..`, `=..`},
		{`..`, `..`},
		{`.=`, `.=`},
		{`/`, `/`},
		{`*/`, `*/`},
		{`//*`, `//*`},
		{`+/*`, `+/*`},
		{`+/**/`, `+/**/`},
		{`!`, `!`},
		{`;`, `;`},
		{``, `''`},
		{`.`, `'.'`},
		{`/*`, `'/*'`},
		{`/**/`, `'/**/'`},
		{`/*=`, `'/*='`},
		{`/**/a`, `'/**/a'`},
		{`%`, `'%'`},
		{`a%`, `'a%'`},
		{`a `, `'a '`},
		{` a`, `' a'`},
		{"a\n", `'a\n'`},
		{`A`, `'A'`},
		{`_`, `'_'`},
		{`1`, `'1'`},
		{`1a`, `'1a'`},
		{`a b`, `'a b'`},
		{`a+`, `'a+'`},
		{`!!`, `'!!'`},
		{`;;`, `';;'`},
		{`[]`, `'[]'`},
		{`{}`, `'{}'`},
		{`,`, `','`},
		{`|`, `'|'`},
		{`(`, `'('`},
		{`f(`, `'f('`},
		{`"`, `'"'`},
		{"`", "'`'"},
		{` `, `' '`},
		{`~ ~`, `'~ ~'`},
		{`'`, `'\''`},
		{`''`, `'\'\''`},
		{`'a'`, `'\'a\''`},
		{`it's`, `'it\'s'`},
		{`a\`, `'a\\'`},
		{`\n`, `'\\n'`},
		{`\'`, `'\\\''`},
		{"\n", `'\n'`},
		{"\t", `'\t'`},
		{"a\nb\tc\\d'e", `'a\nb\tc\\d\'e'`},
		{"\r", ``},
		{"\x00", ``},
		{"\x1f", ``},
		{"\x7f", ``},
		{"\x80", ``},
		{"\xff", ``},
		{"a\r", ``},
		{"a\x00b", ``},
		{"it's\x7f", ``},
		{"\u00e4", ``},
		{"+\xff", ``},
	} {
		if got := lex.Quote(x.name); got != x.want {
			t.Errorf("Quote(%q) = %q; want %q", x.name, got, x.want)
		}
	}
}

// TestQuoteBytes is P3.2 of each byte between two letters: as it is, in quotes, by `\`, or not at all.
func TestQuoteBytes(t *testing.T) {
	for b := range 256 {
		s := string([]byte{byte(b)})
		name := "a" + s + "b"
		want := "'" + name + "'"
		switch {
		case s == "\n":
			want = `'a\nb'`
		case s == "\t":
			want = `'a\tb'`
		case s == `\` || s == "'":
			want = `'a\` + s + `b'`
		case b < 32 || b > 126:
			want = ""
		case b|32 >= 'a' && b|32 <= 'z' || b >= '0' && b <= '9' || s == "_":
			want = name
		}
		if got := lex.Quote(name); got != want {
			t.Errorf("Quote(%q) = %q; want %q", name, got, want)
		}
	}
}

// TestQuoteShortest is P3.2: no text shorter than Quote's has that one atom, as far as all texts of a few bytes show it.
func TestQuoteShortest(t *testing.T) {
	shortest := map[string]int{}
	texts(`aA1.*/!(' \nt`, 5, func(s string) {
		tokens, _, e := lex.Tokens(s)
		if e != api.OK || len(tokens) != 1 || tokens[0].Kind != api.TAtom {
			return
		}
		if n, ok := shortest[tokens[0].Text]; !ok || len(s) < n {
			shortest[tokens[0].Text] = len(s)
		}
	})
	if len(shortest) < 1000 {
		t.Fatalf("only %d atoms", len(shortest))
	}
	for name, n := range shortest {
		if got := lex.Quote(name); len(got) != n {
			t.Errorf("Quote(%q) = %q; there is one of %d bytes", name, got, n)
		}
	}
}

// isAtom tells whether a text is one token, that atom.
func isAtom(text, name string) bool {
	tokens, place, e := lex.Tokens(text)
	return e == api.OK && place == 0 && len(tokens) == 1 && tokens[0].Kind == api.TAtom && tokens[0].Text == name && tokens[0].From == 0 && tokens[0].To == len(text)
}

// TestQuoteReadBack is P3.3, and that Quote is empty just where a byte can't stand in quotes.
func TestQuoteReadBack(t *testing.T) {
	check := func(name string) {
		text := lex.Quote(name)
		stands := strings.IndexFunc(name, func(r rune) bool { return r != '\n' && r != '\t' && (r < 32 || r > 126) }) < 0
		if (text != "") != stands || text != "" && !isAtom(text, name) {
			t.Errorf("Quote(%q) = %q", name, text)
		}
	}
	texts("aA_1.+*/!(%' \\\n\t\r\x7f", 4, check)
	for a := range 256 {
		for b := range 256 {
			check(string([]byte{byte(a), byte(b)}))
		}
	}
	for _, long := range []string{"ab", "A", "+", "!", "1 ", "\\", "'", "\n", "%", "/*", "a\x00"} {
		for _, n := range []int{10, 100, 1000, 1001} {
			check(strings.Repeat(long, n))
		}
	}
}

// TestQuoteLong is P3.2 and P3.3 at MaxText: a name that no text holds has no quote.
func TestQuoteLong(t *testing.T) {
	const most = api.MaxText
	for _, x := range []struct {
		name  string
		bytes int
	}{
		{strings.Repeat("a", most), most},
		{strings.Repeat("a", most+1), 0},
		{strings.Repeat("+", most), most},
		{strings.Repeat("+", most+1), 0},
		{strings.Repeat(" ", most-2), most},
		{strings.Repeat(" ", most-1), 0},
		{strings.Repeat("!", most-2), most},
		{strings.Repeat("'", most/2-1), most},
		{strings.Repeat("'", most/2), 0},
		{strings.Repeat("\n", most/2-1), most},
		{strings.Repeat("\n", most/2), 0},
		{strings.Repeat("a", 1<<20), 0},
		{strings.Repeat("\x00", 1<<20), 0},
	} {
		text := lex.Quote(x.name)
		if len(text) != x.bytes || text != "" && !isAtom(text, x.name) {
			t.Errorf("Quote of %d times %q has %d bytes; want %d", len(x.name), x.name[:1], len(text), x.bytes)
		}
	}
}
