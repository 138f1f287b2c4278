package write_test

import (
	"math"
	"strings"
	"testing"

	"coney/api"
	"coney/write"
)

// checkGood holds that just what is Good is written.
func checkGood(t *testing.T, name string, x api.Term, want bool) {
	t.Helper()
	if got := write.Good(x); got != want {
		t.Errorf("%s: Good = %v", name, got)
	}
	if got := write.Write(x); (got != "") != want {
		t.Errorf("%s: Write = %.30q", name, got)
	}
	if got := write.Named(x, []string{"X", "Y"}); (got != "") != want {
		t.Errorf("%s: Named = %.30q", name, got)
	}
}

// within tells terms of which one is a part, at different places.
func within(x api.Term) []api.Term {
	a := atom("a")
	return []api.Term{
		x,
		compound("f", x),
		compound("f", x, a, a),
		compound("f", a, x, a),
		compound("f", a, a, x),
		list(x),
		list(a, x, a),
		ending(x, a),
		ending(x, a, a),
		compound(".", x),
		nested(x, 50),
		nested(ending(compound("g", a, x), list(a)), 3),
	}
}

// TestBadPart is P6.1: a part that can't be written, wherever it stands.
func TestBadPart(t *testing.T) {
	a := []api.Term{atom("a")}
	for _, x := range []struct {
		name string
		t    api.Term
	}{
		{"nothing", api.Term{}},
		{"the kind 0", api.Term{Kind: 0, N: 1, Name: "a", Args: a}},
		{"the kind 5", api.Term{Kind: 5, N: 1, Name: "a", Args: a}},
		{"the kind -1", api.Term{Kind: -1, N: 1, Name: "a", Args: a}},
		{"a great kind", api.Term{Kind: math.MaxInt, Name: "a"}},
		{"a kind far below 0", api.Term{Kind: math.MinInt, Name: "a"}},
		{"a kind that is Atom in 32 bits", api.Term{Kind: 1<<32 + api.Atom, Name: "a"}},
		{"a variable below 0", variable(-1)},
		{"the least variable", variable(math.MinInt)},
		{"a variable below 0, with all else", api.Term{Kind: api.Var, N: -1, Name: "X", Args: a}},
		{"no Args", compound("f")},
		{"Args without length", api.Term{Kind: api.Cmp, Name: "f", Args: a[:0]}},
		{"no Args of a list's name", compound(".")},
		{"an atom of a byte below 32", atom("a\x00")},
		{"an atom of a byte 13", atom("\r")},
		{"an atom of a byte 127", atom("\x7f")},
		{"an atom of a byte above 127", atom("é")},
		{"an atom too long in quotes", atom(strings.Repeat(" ", api.MaxText))},
		{"an atom too long", atom(strings.Repeat("a", api.MaxText+1))},
		{"a name of a byte below 32", compound("\x1f", a...)},
		{"a name of a byte above 126", compound("f\xff", a...)},
		{"a name too long", compound(strings.Repeat("a", api.MaxText+1), a...)},
	} {
		for i, y := range within(x.t) {
			checkGood(t, x.name+", "+string(rune('a'+i)), y, false)
		}
	}
}

// TestGoodPart is P6.1: what just may be written, and what of a part its Kind does not have, which counts for nothing.
func TestGoodPart(t *testing.T) {
	bad := []api.Term{{}, variable(-1), compound("f"), atom("\x00")}
	for _, x := range []struct {
		name string
		t    api.Term
		want string
	}{
		{"a variable", variable(2), `_2`},
		{"the greatest variable", variable(math.MaxInt), `_9223372036854775807`},
		{"a variable with a Name", api.Term{Kind: api.Var, N: 2, Name: "X"}, `_2`},
		{"a variable with a Name that is none", api.Term{Kind: api.Var, N: 2, Name: "\x00"}, `_2`},
		{"a variable with Args", api.Term{Kind: api.Var, N: 2, Args: bad}, `_2`},
		{"an integer", integer(-1), `-1`},
		{"an integer with a Name", api.Term{Kind: api.Int, N: -1, Name: "[]"}, `-1`},
		{"an integer with a Name that is none", api.Term{Kind: api.Int, N: -1, Name: "\xff"}, `-1`},
		{"an integer with Args", api.Term{Kind: api.Int, N: -1, Name: ".", Args: bad[:2]}, `-1`},
		{"an atom with N", api.Term{Kind: api.Atom, N: -1, Name: "a"}, `a`},
		{"an atom with Args", api.Term{Kind: api.Atom, Name: "a", Args: bad}, `a`},
		{"an atom with a list's Args", api.Term{Kind: api.Atom, Name: ".", Args: bad[:2]}, `'.'`},
		{"an atom [] with Args", api.Term{Kind: api.Atom, N: 5, Name: "[]", Args: bad}, `[]`},
		{"a compound term with N", api.Term{Kind: api.Cmp, N: -1, Name: "f", Args: list(atom("a")).Args}, `f(a,[])`},
		{"a list with N", api.Term{Kind: api.Cmp, N: math.MinInt, Name: ".", Args: list(atom("a")).Args}, `[a]`},
		{"an atom of all bytes that may be", atom("\n\t ~"), `'\n\t ~'`},
		{"an atom as long as may be", atom(strings.Repeat("a", api.MaxText)), strings.Repeat("a", api.MaxText)},
		{"an atom as long as may be in quotes", atom(strings.Repeat(" ", api.MaxText-2)), "'" + strings.Repeat(" ", api.MaxText-2) + "'"},
	} {
		if got := write.Write(x.t); got != x.want {
			t.Errorf("%s: Write = %.50q, want %.50q", x.name, got, x.want)
		}
		for i, y := range within(x.t) {
			checkGood(t, x.name+", "+string(rune('a'+i)), y, true)
		}
	}
}

// parted makes terms of so many parts, 8 at least.
func parted(n int) []api.Term {
	a := atom("a")
	l := []api.Term{
		compound("f", many(a, n-1)...),
		compound("f", many(variable(1<<40), n-1)...),
		nested(a, n-1),
		nested(atom("[]"), n-1),
		nested(compound("g", many(integer(-5), n/2)...), n-n/2-1),
		compound("f", append(many(compound("g", a), (n-1)/2), many(a, (n-1)%2)...)...),
		compound("f", append(many(a, n-1-(n-1)/3*3), many(list(a), (n-1)/3)...)...),
	}
	elements := many(a, (n-1)/2)
	if n%2 == 1 {
		return append(l, list(elements...), ending(variable(0), elements...), ending(integer(1), elements...))
	}
	return append(l, ending(nested(a, 1), elements...))
}

// TestParts is P6.1: up to MaxTokens parts, and one more, of terms of different shapes.
func TestParts(t *testing.T) {
	for n := api.MaxTokens - 4; n <= api.MaxTokens+4; n++ {
		for i, x := range parted(n) {
			checkGood(t, string(rune('a'+i)), x, n <= api.MaxTokens)
		}
	}
	for i, x := range parted(100 * api.MaxTokens) {
		checkGood(t, "great, "+string(rune('a'+i)), x, false)
	}
}

// TestAgain is P6.1: a part counts as often as it stands there, though it be in memory once.
func TestAgain(t *testing.T) {
	x := atom("a")
	for range 8 {
		x = compound("f", x, x)
	}
	checkGood(t, "511 parts", x, true)
	checkGood(t, "1000 parts", compound("f", append([]api.Term{x}, many(atom("b"), 488)...)...), true)
	checkGood(t, "1001 parts", compound("f", append([]api.Term{x}, many(atom("b"), 489)...)...), false)
	checkGood(t, "1023 parts", compound("f", x, x), false)
	for range 100 {
		x = compound("f", x, x)
	}
	checkGood(t, "parts without number", x, false)
}

// TestRound is R1: calls end of a term that has itself, whether along the first of its Args, or the last.
func TestRound(t *testing.T) {
	for _, name := range []string{"f", "."} {
		for i := range 2 {
			args := many(atom("a"), 2)
			args[i] = compound(name, args...)
			args[i].Args = args
			checkGood(t, name, compound(name, args...), false)
		}
	}
	args := make([]api.Term, 1)
	args[0] = api.Term{Kind: api.Cmp, Name: "f", Args: args}
	checkGood(t, "one", args[0], false)
	args[0] = api.Term{Kind: api.Atom, Name: "a", Args: args}
	checkGood(t, "an atom's Args, which do not count", args[0], true)
	checkGood(t, "deep", nested(atom("a"), 100000), false)
}
