package term_test

import (
	"math/rand"
	"testing"

	"coney/api"
	"coney/term"
)

// TestList is P7.5 of List; what comes of it stands as a compound term, so that nothing hangs on how lists are read.
func TestList(t *testing.T) {
	a, b, none := atom("a"), atom("b"), atom("[]")
	cell := func(x, y api.Term) api.Term { return compound(".", x, y) }
	for _, x := range []struct {
		l          []api.Term
		rest, want api.Term
	}{
		{nil, none, none},
		{[]api.Term{}, none, none},
		{nil, variable(3), variable(3)},
		{nil, a, a},
		{nil, cell(a, none), cell(a, none)},
		{[]api.Term{a}, none, cell(a, none)},
		{[]api.Term{a, b}, none, cell(a, cell(b, none))},
		{[]api.Term{b, a, b}, none, cell(b, cell(a, cell(b, none)))},
		{[]api.Term{a}, variable(0), cell(a, variable(0))},
		{[]api.Term{a, variable(1)}, variable(1), cell(a, cell(variable(1), variable(1)))},
		{[]api.Term{a}, integer(-1), cell(a, integer(-1))},
		{[]api.Term{a}, b, cell(a, b)},
		{[]api.Term{a, b}, cell(a, none), cell(a, cell(b, cell(a, none)))},
		{[]api.Term{none}, none, cell(none, none)},
		{[]api.Term{cell(a, none), none}, none, cell(cell(a, none), cell(none, none))},
		{[]api.Term{compound("f", a)}, compound("f", b), cell(compound("f", a), compound("f", b))},
		{[]api.Term{a}, compound(".", b), cell(a, compound(".", b))},
		{[]api.Term{a}, api.Term{}, cell(a, api.Term{})},
		{nil, api.Term{}, api.Term{}},
	} {
		if got := term.List(x.l, x.rest); !same(got, x.want) {
			t.Errorf("List(%v, %v) = %v, want %v", x.l, x.rest, got, x.want)
		}
	}
}

// TestUnlist is P7.5 of Unlist.
func TestUnlist(t *testing.T) {
	for _, x := range []struct {
		t    string
		l    []string
		rest string
	}{
		{`[]`, nil, `[]`},
		{`_3`, nil, `_3`},
		{`a`, nil, `a`},
		{`-1`, nil, `-1`},
		{`'.'`, nil, `'.'`},
		{`f(a,b)`, nil, `f(a,b)`},
		{`'.'(a)`, nil, `'.'(a)`},
		{`'.'(a,b,c)`, nil, `'.'(a,b,c)`},
		{`'.'(a,b,[])`, nil, `'.'(a,b,[])`},
		{`'.'(a,b)`, []string{`a`}, `b`},
		{`..(a,[])`, nil, `..(a,[])`},
		{`[a]`, []string{`a`}, `[]`},
		{`[a,_1,3]`, []string{`a`, `_1`, `3`}, `[]`},
		{`[a,b|_0]`, []string{`a`, `b`}, `_0`},
		{`[a,b|c]`, []string{`a`, `b`}, `c`},
		{`[a|-1]`, []string{`a`}, `-1`},
		{`[a|f([b])]`, []string{`a`}, `f([b])`},
		{`[a|'.'(b)]`, []string{`a`}, `'.'(b)`},
		{`[a|'.'(b,c,[])]`, []string{`a`}, `'.'(b,c,[])`},
		{`[a|'[]'(b)]`, []string{`a`}, `'[]'(b)`},
		{`[[]]`, []string{`[]`}, `[]`},
		{`[[a,b],[c|d],[]]`, []string{`[a,b]`, `[c|d]`, `[]`}, `[]`},
		{`[[a]|[b]]`, []string{`[a]`, `b`}, `[]`},
		{`f([a])`, nil, `f([a])`},
	} {
		l, rest := term.Unlist(of(t, x.t))
		if !sameAll(l, ofAll(t, x.l)) || !same(rest, of(t, x.rest)) {
			t.Errorf("Unlist(%s) = %v, %v", x.t, l, rest)
		}
	}
}

// checkBoth is P7.7: Unlist of List is both, or, if the rest has cells, what these are too.
func checkBoth(t *testing.T, l []api.Term, rest api.Term) {
	t.Helper()
	more, last := term.Unlist(rest)
	got, end := term.Unlist(term.List(l, rest))
	if len(got) != len(l)+len(more) || !sameAll(got[:len(l)], l) || !sameAll(got[len(l):], more) || !same(end, last) {
		t.Errorf("Unlist of List(%d elements, %.100v) = %d elements, %.100v", len(l), rest, len(got), end)
	}
}

// TestBoth is P7.7 of Unlist and List.
func TestBoth(t *testing.T) {
	r := rand.New(rand.NewSource(75))
	for i := range 5000 {
		checkBoth(t, row(i%7, func(int) api.Term { return random(r, 3) }), random(r, 2))
	}
	for _, n := range []int{0, 1, 498, 499, 500, 999, 1000, 1001, 5000, 10000} {
		for _, rest := range []api.Term{atom("[]"), variable(0), integer(0), compound("f", atom("a")), compound(".", atom("a"))} {
			checkBoth(t, row(n, integer), rest)
		}
	}
	great := compound("f", many(variable(1), api.MaxTokens-1)...)
	checkBoth(t, many(great, 2000), great)
	checkBoth(t, many(nested(atom("a"), api.MaxTokens-1), 100), nested(atom("b"), 5*api.MaxTokens))
}
