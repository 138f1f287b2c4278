package term_test

import (
	"math"
	"math/rand"
	"testing"

	"coney/api"
	"coney/term"
	"coney/write"
)

func checkSubst(t *testing.T, x api.Term, l []api.Term, want api.Term) {
	t.Helper()
	if got := term.Subst(x, l); !same(got, want) {
		t.Errorf("Subst(%.200v, %.200v) = %.200v, want %.200v", x, l, got, want)
	}
}

// TestSubst is P7.4; `0` in a list is a term of Kind 0.
func TestSubst(t *testing.T) {
	for _, x := range []struct {
		t    string
		l    []string
		want string
	}{
		{`_0`, nil, `_0`},
		{`_0`, []string{`a`}, `a`},
		{`_0`, []string{`0`}, `_0`},
		{`_0`, []string{`_1`, `a`}, `_1`},
		{`_1`, []string{`a`}, `_1`},
		{`_1`, []string{`a`, `b`}, `b`},
		{`_2`, []string{`a`, `b`}, `_2`},
		{`_9223372036854775807`, []string{`a`, `b`}, `_9223372036854775807`},
		{`0`, []string{`a`}, `0`},
		{`1`, []string{`a`, `b`}, `1`},
		{`a`, []string{`b`}, `a`},
		{`[]`, []string{`b`}, `[]`},
		{`'_0'`, []string{`b`}, `'_0'`},
		{`f(_0,_1,_2)`, nil, `f(_0,_1,_2)`},
		{`f(_0,_1,_2)`, []string{`a`}, `f(a,_1,_2)`},
		{`f(_0,_1,_2)`, []string{`a`, `-5`}, `f(a,-5,_2)`},
		{`f(_0,_1,_2)`, []string{`a`, `-5`, `g(a)`, `x`}, `f(a,-5,g(a))`},
		{`f(_0,_1,_2)`, []string{`0`, `0`, `a`}, `f(_0,_1,a)`},
		{`f(_0,_1,_2)`, []string{`a`, `0`, `b`}, `f(a,_1,b)`},
		{`f(_0,_1,_0)`, []string{`g(_1)`, `_0`}, `f(g(_1),_0,g(_1))`},
		{`f(_0,_1)`, []string{`_0`, `_0`}, `f(_0,_0)`},
		{`f(_0,_1)`, []string{`_1`, `_2`, `a`}, `f(_1,_2)`},
		{`f(g(h(_1)),_1,0,1)`, []string{`a`, `b`}, `f(g(h(b)),b,0,1)`},
		{`[_0,a|_1]`, []string{`_1`, `[b]`}, `[_1,a,b]`},
		{`[_0]`, []string{`[]`}, `[[]]`},
		{`f(_0,_0)`, []string{`f(_0,_0)`}, `f(f(_0,_0),f(_0,_0))`},
	} {
		l := ofAll(t, x.l)
		for i := range l {
			if x.l[i] == `0` {
				l[i] = api.Term{}
			}
		}
		checkSubst(t, of(t, x.t), l, of(t, x.want))
	}
}

// TestSubstEdges is P7.4 of what no text says: lists' spare room, a term of Kind 0 with all else, terms that are told as they are.
func TestSubstEdges(t *testing.T) {
	x := of(t, `f(_0,g(_1))`)
	l := []api.Term{atom("a"), atom("b")}
	checkSubst(t, x, l[:0], x)
	checkSubst(t, x, l[:1], of(t, `f(a,g(_1))`))
	checkSubst(t, x, []api.Term{{Name: "a", N: 1, Args: l}, integer(0)}, of(t, `f(_0,g(0))`))
	for _, as := range []api.Term{{Kind: 5}, {Kind: -1, N: 3}, variable(-1), compound("f"), atom("\x00"), nested(variable(0), 3*api.MaxTokens), compound("f", many(variable(0), 3*api.MaxTokens)...)} {
		checkSubst(t, x, []api.Term{as, as}, compound("f", as, compound("g", as)))
		checkSubst(t, variable(0), []api.Term{as}, as)
	}
	checkSubst(t, compound("f", many(variable(0), api.MaxTokens-1)...), []api.Term{x}, compound("f", many(x, api.MaxTokens-1)...))
	checkSubst(t, nested(variable(0), api.MaxTokens-1), []api.Term{x}, nested(x, api.MaxTokens-1))
	around := compound("f", atom("a"))
	around.Args[0] = around
	if got := term.Subst(of(t, `g(_0)`), []api.Term{around}); len(got.Args) != 1 || len(got.Args[0].Args) != 1 || got.Args[0].Name != "f" {
		t.Error("a term that has itself is not told as it is")
	}
}

// put is P7.4, word by word.
func put(x api.Term, l []api.Term) api.Term {
	if x.Kind == api.Var && x.N < len(l) && l[x.N].Kind != 0 {
		return l[x.N]
	}
	var args []api.Term
	for _, y := range x.Args {
		args = append(args, put(y, l))
	}
	x.Args = args
	return x
}

// TestSubstRandom is P7.4 of random terms, and lists of every length.
func TestSubstRandom(t *testing.T) {
	r := rand.New(rand.NewSource(74))
	for i := range 5000 {
		x := random(r, i%6)
		l := row(i%5, func(int) api.Term {
			if r.Intn(4) == 0 {
				return api.Term{}
			}
			return random(r, 2)
		})
		checkSubst(t, x, l, put(x, l))
	}
}

func checkShift(t *testing.T, x api.Term, by int, want api.Term) {
	t.Helper()
	got := term.Shift(x, by)
	if !same(got, want) {
		t.Errorf("Shift(%.200v, %d) = %.200v, want %.200v", x, by, got, want)
	}
	if !write.Good(got) {
		t.Errorf("Shift(%.200v, %d) tells %.200v, which may not be", x, by, got)
	}
}

// TestShift is P7.4.
func TestShift(t *testing.T) {
	for _, x := range []struct {
		t    string
		by   int
		want string
	}{
		{`_0`, 0, `_0`},
		{`_0`, 1, `_1`},
		{`_5`, 3, `_8`},
		{`_5`, -1, `_5`},
		{`_5`, -5, `_5`},
		{`_5`, math.MinInt, `_5`},
		{`_0`, 1<<40 - 1, `_1099511627775`},
		{`_0`, 1 << 40, `_1099511627776`},
		{`_0`, 1<<40 + 1, `_1099511627776`},
		{`_0`, math.MaxInt, `_1099511627776`},
		{`_5`, 1 << 40, `_1099511627781`},
		{`_5`, 1<<40 + 7, `_1099511627781`},
		{`_1099511627776`, 1 << 40, `_2199023255552`},
		{`_1099511627776`, 2, `_1099511627778`},
		{`_4611686018427387904`, 1 << 40, `_4611687117939015680`},
		{`5`, 3, `5`},
		{`-5`, 3, `-5`},
		{`a`, 3, `a`},
		{`'_5'`, 3, `'_5'`},
		{`[]`, 3, `[]`},
		{`f(a,1)`, 3, `f(a,1)`},
		{`f(_0,_1,_0,0)`, 2, `f(_2,_3,_2,0)`},
		{`f(g(h(_1)),_0,1)`, 1, `f(g(h(_2)),_1,1)`},
		{`f(g(h(_1)),_0,1)`, -1, `f(g(h(_1)),_0,1)`},
		{`[_0,a|_9]`, 10, `[_10,a|_19]`},
	} {
		checkShift(t, of(t, x.t), x.by, of(t, x.want))
	}
}

// TestShiftEdges is P7.4 of great terms, and of numbers that have none so far above them: what is told is a term that may be.
func TestShiftEdges(t *testing.T) {
	const n = api.MaxTokens - 1
	checkShift(t, compound("f", row(n, variable)...), 7, compound("f", row(n, func(i int) api.Term { return variable(i + 7) })...))
	checkShift(t, nested(variable(3), n), 1<<50, nested(variable(3+1<<40), n))
	checkShift(t, variable(math.MaxInt-1<<40), 1<<40, variable(math.MaxInt))
	checkShift(t, variable(math.MaxInt-1), 1, variable(math.MaxInt))
	checkShift(t, variable(math.MaxInt), 0, variable(math.MaxInt))
	checkShift(t, variable(math.MaxInt), -1, variable(math.MaxInt))
	checkShift(t, variable(math.MaxInt), 1, variable(math.MaxInt))
	checkShift(t, variable(math.MaxInt-5), 1<<40, variable(math.MaxInt))
}

// TestShiftRandom is P7.4: each variable's number, and nothing else.
func TestShiftRandom(t *testing.T) {
	r := rand.New(rand.NewSource(741))
	for i := range 5000 {
		x, by := random(r, i%6), r.Intn(40)-10
		up := max(by, 0)
		checkShift(t, x, by, put(x, []api.Term{variable(up), variable(up + 1), variable(up + 2)}))
	}
}
