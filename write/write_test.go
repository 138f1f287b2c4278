package write_test

import (
	"math"
	"strings"
	"testing"

	"coney/api"
	"coney/write"
)

type row struct {
	t    api.Term
	want string
}

// checkWrite holds that names which no variable's number reaches change nothing.
func checkWrite(t *testing.T, rows []row) {
	t.Helper()
	for _, x := range rows {
		if got := write.Write(x.t); got != x.want {
			t.Errorf("Write(%v) = %q, want %q", x.t, got, x.want)
		}
		for _, names := range [][]string{nil, {}, {"", "_", ""}, {"_"}} {
			if got := write.Named(x.t, names); got != x.want {
				t.Errorf("Named(%v, %q) = %q, want %q", x.t, names, got, x.want)
			}
		}
		if got := write.Good(x.t); got != (x.want != "") {
			t.Errorf("Good(%v) = %v", x.t, got)
		}
	}
}

// TestExamples is the chapter's.
func TestExamples(t *testing.T) {
	checkWrite(t, []row{
		{compound("f", variable(0), atom("it's"), list(integer(1), integer(2))), `f(_0,'it\'s',[1,2])`},
		{compound("-", integer(1)), `-(1)`},
		{integer(-1), `-1`},
		{ending(variable(0), atom("a")), `[a|_0]`},
	})
}

// TestSingle is P6.2 of variables, integers and atoms.
func TestSingle(t *testing.T) {
	checkWrite(t, []row{
		{variable(0), `_0`},
		{variable(7), `_7`},
		{variable(10), `_10`},
		{variable(math.MaxInt), `_9223372036854775807`},
		{integer(0), `0`},
		{integer(9), `9`},
		{integer(-10), `-10`},
		{integer(math.MaxInt), `9223372036854775807`},
		{integer(math.MinInt), `-9223372036854775808`},
		{atom("a"), `a`},
		{atom("fooBar_9"), `fooBar_9`},
		{atom("[]"), `[]`},
		{atom("{}"), `{}`},
		{atom("[ ]"), `'[ ]'`},
		{atom("["), `'['`},
		{atom("{"), `'{'`},
		{atom("}"), `'}'`},
		{atom("[]]"), `'[]]'`},
		{atom("()"), `'()'`},
		{atom(""), `''`},
		{atom("."), `'.'`},
		{atom(".."), `..`},
		{atom(","), `','`},
		{atom("|"), `'|'`},
		{atom("!"), `!`},
		{atom(";"), `;`},
		{atom("-"), `-`},
		{atom(":-"), `:-`},
		{atom("is"), `is`},
		{atom("/*"), `'/*'`},
		{atom("%"), `'%'`},
		{atom("X"), `'X'`},
		{atom("_"), `'_'`},
		{atom("_0"), `'_0'`},
		{atom("1"), `'1'`},
		{atom("-1"), `'-1'`},
		{atom("two words"), `'two words'`},
		{atom("a\n\t\\'b"), `'a\n\t\\\'b'`},
		{atom(`"`), `'"'`},
		{atom("~"), `~`},
	})
}

// TestCompound is P6.2 of compound terms: no operator is written as one, and a name is quoted as an atom is, `[]` and `{}` too.
func TestCompound(t *testing.T) {
	a, b := atom("a"), atom("b")
	checkWrite(t, []row{
		{compound("f", a), `f(a)`},
		{compound("f", a, b, variable(2), integer(-3)), `f(a,b,_2,-3)`},
		{compound("f", compound("g", a), compound("h", compound("g", b))), `f(g(a),h(g(b)))`},
		{compound("+", a, b), `+(a,b)`},
		{compound("-", integer(-1)), `-(-1)`},
		{compound("-", integer(-1), integer(-2)), `-(-1,-2)`},
		{compound(":-", a, compound(",", b, a)), `:-(a,','(b,a))`},
		{compound("f", atom(","), atom(":-"), atom("-")), `f(',',:-,-)`},
		{compound("f", atom("[]"), atom("{}"), atom("it's")), `f([],{},'it\'s')`},
		{compound("[]", a), `'[]'(a)`},
		{compound("[]", a, b), `'[]'(a,b)`},
		{compound("{}", a), `'{}'(a)`},
		{compound("{}", atom("{}")), `'{}'({})`},
		{compound("", a), `''(a)`},
		{compound("two words", a), `'two words'(a)`},
		{compound("X", variable(0)), `'X'(_0)`},
		{compound("'\n", a), `'\'\n'(a)`},
		{compound("!", a), `!(a)`},
		{compound("f", variable(1), variable(0), variable(1)), `f(_1,_0,_1)`},
	})
}

// TestList is P6.2 of lists: with a rest, without, within one another, and of what looks like one.
func TestList(t *testing.T) {
	a, b, c := atom("a"), atom("b"), atom("c")
	checkWrite(t, []row{
		{list(a), `[a]`},
		{list(a, b, c), `[a,b,c]`},
		{ending(b, a), `[a|b]`},
		{ending(c, a, b), `[a,b|c]`},
		{ending(variable(3), a, variable(3)), `[a,_3|_3]`},
		{ending(integer(-1), integer(-2)), `[-2|-1]`},
		{ending(atom("{}"), a), `[a|{}]`},
		{ending(atom(""), a), `[a|'']`},
		{ending(atom("."), a), `[a|'.']`},
		{ending(atom("|"), atom("|"), atom(",")), `['|',','|'|']`},
		{ending(compound("f", a), a), `[a|f(a)]`},
		{ending(compound("[]", b), a), `[a|'[]'(b)]`},
		{ending(compound("{}", b), a), `[a|'{}'(b)]`},
		{list(atom("[]")), `[[]]`},
		{list(atom("[]"), atom("[]")), `[[],[]]`},
		{list(list(a), list(b, list(c)), atom("[]")), `[[a],[b,[c]],[]]`},
		{ending(b, ending(a, ending(c, a))), `[[[a|c]|a]|b]`},
		{compound("f", list(a), ending(b, a)), `f([a],[a|b])`},
		{list(compound("f", list(a, b)), compound("-", a)), `[f([a,b]),-(a)]`},
		{compound(".", a), `'.'(a)`},
		{compound(".", a, b, c), `'.'(a,b,c)`},
		{compound(".", a, b, atom("[]")), `'.'(a,b,[])`},
		{compound(".", list(a)), `'.'([a])`},
		{ending(compound(".", b), a), `[a|'.'(b)]`},
		{ending(compound(".", b, c, atom("[]")), a), `[a|'.'(b,c,[])]`},
		{list(compound(".", a)), `['.'(a)]`},
		{compound("..", a, atom("[]")), `..(a,[])`},
		{compound("", a, atom("[]")), `''(a,[])`},
	})
}

// TestNamed is P6.2 of names: whatever a name is, it stands for its variable, but an empty one and `_`.
func TestNamed(t *testing.T) {
	term := compound("f", variable(0), variable(1), list(variable(2)), variable(0), variable(3), ending(variable(1), variable(4)))
	for _, x := range []struct {
		names []string
		want  string
	}{
		{nil, `f(_0,_1,[_2],_0,_3,[_4|_1])`},
		{[]string{"X"}, `f(X,_1,[_2],X,_3,[_4|_1])`},
		{[]string{"X", "Y"}, `f(X,Y,[_2],X,_3,[_4|Y])`},
		{[]string{"", "Y", "_", "", "Z"}, `f(_0,Y,[_2],_0,_3,[Z|Y])`},
		{[]string{"_", "_", "_1"}, `f(_0,_1,[_1],_0,_3,[_4|_1])`},
		{[]string{"__", " ", "_0"}, `f(__, ,[_0],__,_3,[_4| ])`},
		{[]string{"x", "it's", "\x00\xff", "X", "X"}, "f(x,it's,[\x00\xff],x,X,[X|it's])"},
		{[]string{"X", "Y", "Z", "U", "V", "W"}, `f(X,Y,[Z],X,U,[V|Y])`},
	} {
		if got := write.Named(term, x.names); got != x.want {
			t.Errorf("Named(.., %q) = %q, want %q", x.names, got, x.want)
		}
	}
	for _, x := range []row{
		{variable(1), `Y`},
		{variable(2), `_2`},
		{variable(math.MaxInt), `_9223372036854775807`},
		{integer(0), `0`},
		{integer(1), `1`},
		{atom("_0"), `'_0'`},
		{api.Term{Kind: api.Atom, Name: "a", N: 1}, `a`},
		{variable(-1), ``},
		{compound("f"), ``},
	} {
		if got := write.Named(x.t, []string{"X", "Y"}); got != x.want {
			t.Errorf("Named(%v, X Y) = %q, want %q", x.t, got, x.want)
		}
	}
}

// TestLong is P6.2 of the greatest terms, in full.
func TestLong(t *testing.T) {
	const n = api.MaxTokens
	x := variable(0)
	for _, y := range []struct {
		name string
		t    api.Term
		want string
	}{
		{"arguments", compound("f", many(x, n-1)...), "f(_0" + strings.Repeat(",_0", n-2) + ")"},
		{"levels", nested(x, n-1), strings.Repeat("f(", n-1) + "_0" + strings.Repeat(")", n-1)},
		{"elements", ending(list(x), many(x, (n-4)/2)...), "[_0" + strings.Repeat(",_0", (n-4)/2) + "]"},
		{"names", compound("f", many(atom(strings.Repeat("a", 4000)), n-1)...), "f(" + strings.Repeat(strings.Repeat("a", 4000)+",", n-2) + strings.Repeat("a", 4000) + ")"},
	} {
		if got := write.Write(y.t); got != y.want {
			t.Errorf("%s: %d bytes, want %d", y.name, len(got), len(y.want))
		}
		names := write.Named(y.t, []string{"X"})
		if want := strings.ReplaceAll(y.want, "_0", "X"); names != want {
			t.Errorf("%s: Named: %d bytes, want %d", y.name, len(names), len(want))
		}
	}
}
