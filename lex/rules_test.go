package lex_test

import (
	"regexp"
	"slices"
	"strings"
	"testing"

	"coney/api"
	"coney/lex"
)

// texts tells each text of up to n of the alphabet's bytes.
func texts(alphabet string, n int, each func(s string)) {
	room := make([]byte, n)
	var fill func(i int)
	fill = func(i int) {
		each(string(room[:i]))
		if i == n {
			return
		}
		for _, b := range []byte(alphabet) {
			room[i] = b
			fill(i + 1)
		}
	}
	fill(0)
}

// rule is a row of P3.1: what its token looks like.
type rule struct {
	kind int
	look *regexp.Regexp
}

// The chapter's rules once more, as patterns: they share nothing with the program.
var (
	between = regexp.MustCompile(`^(?:[ \t\n\r]|%[^\n]*|/\*(?s:.*?)\*/)*`)
	ended   = regexp.MustCompile(`^\.(?:[ \t\n\r%]|$)`)
	inside  = regexp.MustCompile(`^'(?:''|\\[nt\\']|[ -&(-\[\]-~])*`)
	meant   = strings.NewReplacer(`''`, `'`, `\n`, "\n", `\t`, "\t", `\\`, `\`, `\'`, `'`)
	rules   = []rule{
		{api.TAtom, regexp.MustCompile(`^[a-z][a-zA-Z0-9_]*`)},
		{api.TVar, regexp.MustCompile(`^[A-Z_][a-zA-Z0-9_]*`)},
		{api.TInt, regexp.MustCompile(`^[0-9]+`)},
		{api.TAtom, regexp.MustCompile(`^[-+*/\\^<>=:.?@#$&~]+`)},
		{api.TAtom, regexp.MustCompile(`^[!;]`)},
		{api.TMark, regexp.MustCompile(`^[()\[\]{},|]`)},
	}
)

// byRules is P3.1's answer, without its limits.
func byRules(s string) ([]api.Token, int, api.Errno) {
	var l []api.Token
	for at := 0; ; {
		at += len(between.FindString(s[at:]))
		rest := s[at:]
		if rest == "" {
			return l, 0, api.OK
		}
		if strings.HasPrefix(rest, "/*") {
			return nil, at, api.ErrQuote
		}
		x, off, e := oneByRules(rest)
		if e != api.OK {
			return nil, at + off, e
		}
		x.From, x.To = x.From+at, x.To+at
		if x.Text == "(" && x.Kind == api.TMark && len(l) > 0 && l[len(l)-1].Kind == api.TAtom && l[len(l)-1].To == at {
			x.Kind = api.TOpen
		}
		l = append(l, x)
		at = x.To
	}
}

// oneByRules is the token at the beginning of rest.
func oneByRules(rest string) (api.Token, int, api.Errno) {
	if ended.MatchString(rest) {
		return api.Token{Kind: api.TEnd, Text: ".", To: 1}, 0, api.OK
	}
	if in := inside.FindString(rest); in != "" {
		behind := rest[len(in):]
		switch {
		case behind == "" || behind == `\`:
			return api.Token{}, 0, api.ErrQuote
		case behind[0] == '\'':
			return api.Token{Kind: api.TAtom, Text: meant.Replace(in[1:]), To: len(in) + 1}, 0, api.OK
		case behind[0] == '\\':
			return api.Token{}, len(in), api.ErrEscape
		}
		return api.Token{}, len(in), api.ErrChar
	}
	for _, r := range rules {
		if word := r.look.FindString(rest); word != "" {
			return api.Token{Kind: r.kind, Text: word, To: len(word)}, 0, api.OK
		}
	}
	return api.Token{}, 0, api.ErrChar
}

// TestByRules is P3.1, held against the patterns at all short texts of several alphabets; no text is long enough for a limit.
func TestByRules(t *testing.T) {
	check := func(s string) {
		tokens, place, e := lex.Tokens(s)
		want, wantPlace, wantE := byRules(s)
		if !slices.Equal(tokens, want) || place != wantPlace || e != wantE || e != api.OK && tokens != nil {
			t.Errorf("Tokens(%q) = %s, %d, %d; want %s, %d, %d", s, show(tokens), place, e, show(want), wantPlace, wantE)
		}
	}
	texts("aZ_0+/*.'\\n(),|!;%[}# \t\n\r\"\x00\x7f\xc3", 3, check)
	texts("aX1-.('% \n", 5, check)
	texts("'\\na (\x1f", 6, check)
	texts("/*%\na", 7, check)
	for a := range 256 {
		for b := range 256 {
			check(string([]byte{byte(a), byte(b)}))
		}
	}
}

// TestWhatFollows is P3.3: what stands ahead of tokens, between them and behind them is blanks and comments.
func TestWhatFollows(t *testing.T) {
	blank := regexp.MustCompile(`^(?:[ \t\n\r]|%[^\n]*(?:\n|$)|/\*(?s:.*?)\*/)*$`)
	check := func(s string) {
		tokens, _, e := lex.Tokens(s)
		if e != api.OK {
			return
		}
		at := 0
		for _, x := range append(tokens, api.Token{From: len(s), To: len(s) + 1}) {
			if x.From < at || x.To <= x.From || !blank.MatchString(s[at:x.From]) {
				t.Errorf("Tokens(%q): %s: %d to %d", s, show(tokens), at, x.From)
				return
			}
			at = x.To
		}
	}
	texts("aX1+.('% \n", 5, check)
	texts("/*%\na", 7, check)
}
