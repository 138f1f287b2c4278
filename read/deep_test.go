package read_test

import (
	"strings"
	"testing"

	"coney/api"
	"coney/read"
)

// A nest is a way in which a term stands so many levels deeper: what is ahead of it, where the first term within begins there, and what is behind.
type nest struct {
	ahead         string
	first, levels int
	behind        string
}

func nests() []nest {
	return []nest{
		{`(`, 1, 1, `)`},
		{`( `, 2, 1, ` )`},
		{`f(`, 2, 1, `)`},
		{`f(a,`, 2, 1, `)`},
		{`f(`, 2, 1, `,a)`},
		{`f(a,`, 2, 1, `,a)`},
		{`-(`, 2, 1, `)`},
		{`[`, 1, 1, `]`},
		{`[a,`, 1, 1, `]`},
		{`[`, 1, 1, `,a]`},
		{`[`, 1, 1, `|a]`},
		{`[a|`, 1, 1, `]`},
		{`[a,a|`, 1, 1, `]`},
		{`{`, 1, 1, `}`},
		{`a^`, 2, 1, ``},
		{`a,`, 2, 1, ``},
		{`a;`, 2, 1, ``},
		{`X ',' `, 6, 1, ``},
		{`- `, 2, 1, ``},
		{`\+ `, 3, 1, ``},
		{`1-(`, 2, 2, `)`},
		{`- (`, 2, 2, `)`},
		{`[-{`, 1, 3, `}]`}, // here the `-` would be too deep
		{`f(a, [a| (`, 2, 3, `)])`},
	}
}

// TestDeep is P5.1: terms that stand as deep as may be, and one deeper, whatever they stand in.
func TestDeep(t *testing.T) {
	for _, x := range nests() {
		n := api.MaxDepth / x.levels
		left := api.MaxDepth % x.levels
		ahead := strings.Repeat("{", left) + strings.Repeat(x.ahead, n)
		behind := strings.Repeat(x.behind, n) + strings.Repeat("}", left) + " ."
		for _, inner := range []string{`a`, `X`, `1`, `[]`, `{ }`, `'[]'`} {
			if l, place, e := read.Read(ahead + inner + behind); len(l) != 1 || place != 0 || e != api.OK {
				t.Errorf("Read(%s) = %d sentences, %d, %d", brief(ahead+inner+behind), len(l), place, e)
			}
			checkBad(t, []bad{{ahead + x.ahead + inner + x.behind + behind, len(ahead) + x.first, api.ErrDeep}})
		}
	}
}

// TestDeepest is P5.1 of what stands as deep as may be: it may be a term without others in it, whatever it looks like, and no other.
func TestDeepest(t *testing.T) {
	s := strings.Repeat("(", api.MaxDepth)
	const n = api.MaxDepth
	closed := strings.Repeat(")", n) + "."
	for _, inner := range []string{`a`, `X`, `_`, `9223372036854775807`, `-1`, `-9223372036854775808`, `[]`, `[ ]`, `{}`, `{ }`, `-`, `:-`, `\+`, `=`, `','`} {
		if l, place, e := read.Read(s + inner + closed); len(l) != 1 || place != 0 || e != api.OK {
			t.Errorf("%s: %d sentences, %d, %d", inner, len(l), place, e)
		}
	}
	for _, x := range []struct {
		inner string
		at    int
	}{
		{`(a)`, 1}, {`()`, 1}, {`(`, 1}, {`f(a)`, 2}, {`f()`, 2}, {`f( )`, 3}, {`f(`, 2}, {`-(1)`, 2}, {`-(-1)`, 2}, {`[a]`, 1}, {`[|a]`, 1}, {`[,`, 1}, {`[[]]`, 1}, {`[}`, 1}, {`{a}`, 1}, {`{)`, 1},
		{`a-b`, 2}, {`a,b`, 2}, {`a-)`, 2}, {`a=`, 2}, {`a:- `, 4}, {`- a`, 2}, {`-X`, 1}, {`- 1`, 2}, {`+1`, 1}, {`:- :-`, 3}, {`- -`, 2}, {`\+ - a`, 3},
		{`a-9223372036854775808`, 2}, {`- 9223372036854775808`, 2}, {`[9223372036854775808`, 1}, {`(|`, 1},
	} {
		checkBad(t, []bad{{s + x.inner + closed, n + x.at, api.ErrDeep}})
	}
	checkBad(t, []bad{
		{s, n, api.ErrSyntax},
		{s + closed, n, api.ErrSyntax},
		{s + `9223372036854775808` + closed, n, api.ErrBig},
		{s + `-9223372036854775809` + closed, n + 1, api.ErrBig},
		{s + `a b`, n + 2, api.ErrSyntax},
		{s + `[ `, n + 2, api.ErrDeep},
		{s + `f(`, n + 2, api.ErrDeep},
		{s + `a - %`, n + 5, api.ErrDeep},
		{s + `-`, n + 1, api.ErrSyntax},
		{s + `( `, n + 2, api.ErrDeep},
		{s + `(.`, n + 1, api.ErrDeep},
		{s + `()`, n + 1, api.ErrDeep},
		{s + `(("`, n + 2, api.ErrChar},
		{`) ` + s + `((`, 0, api.ErrSyntax},
		{`9223372036854775808, ` + s + `((`, 0, api.ErrBig},
		{strings.Repeat("(", 999), n + 1, api.ErrDeep},
		{strings.Repeat("[", 999), n + 1, api.ErrDeep},
		{strings.Repeat("- ", 999), 2*n + 2, api.ErrDeep},
	})
}

// TestNotDeep is P5.1: what is ahead of an operator stands no deeper for it, nor does an element or argument for those ahead of it; and each sentence begins anew.
func TestNotDeep(t *testing.T) {
	for _, x := range []struct{ s, first string }{
		{`a` + strings.Repeat("-a", 400), `-(`},
		{`[a` + strings.Repeat(",a", 400) + `]`, `.(a,.(a,`},
		{`[a` + strings.Repeat(",a", 400) + `|a]`, `.(a,.(a,`},
		{`f(a` + strings.Repeat(",a", 400) + `)`, `f(a,a,`},
	} {
		l, place, e := read.Read(x.s + " .")
		if len(l) != 1 || place != 0 || e != api.OK || !strings.HasPrefix(show(l[0].Term), x.first) {
			t.Errorf("Read(%s .) = %d sentences, %d, %d", brief(x.s), len(l), place, e)
		}
	}
	deep := strings.Repeat("(", api.MaxDepth) + "a" + strings.Repeat(")", api.MaxDepth) + ". "
	checkGood(t, []good{{strings.Repeat(deep, 7), `a; a; a; a; a; a; a`}})
	checkBad(t, []bad{{deep + "(" + deep, len(deep) + api.MaxDepth + 1, api.ErrDeep}})
	side := strings.Repeat("(", api.MaxDepth-1) + "a-b-c-d" + strings.Repeat(")", api.MaxDepth-1)
	checkGood(t, []good{
		{side + ".", `-(-(-(a,b),c),d)`},
		{"a^" + side[1:len(side)-1] + ".", `^(a,-(-(-(a,b),c),d))`},
	})
	checkBad(t, []bad{
		{"(" + side + ").", api.MaxDepth + 2, api.ErrDeep},
		{"a^" + side + ".", api.MaxDepth + 3, api.ErrDeep},
	})
}
