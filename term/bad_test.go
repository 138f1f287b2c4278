package term_test

import (
	"math"
	"strings"
	"testing"

	"coney/api"
	"coney/term"
	"coney/write"
)

// round has itself at that place of so many Args.
func round(name string, at, n int) api.Term {
	args := many(atom("a"), n)
	args[at] = compound(name, args...)
	return args[at]
}

// turns are two terms that have each other.
func turns() []api.Term {
	a, b := make([]api.Term, 2), make([]api.Term, 2)
	a[0], a[1] = variable(0), compound("f", b...)
	b[0], b[1] = compound("g", a...), variable(1)
	return []api.Term{compound("g", a...), compound("f", b...)}
}

// bad are terms of which nothing is promised but that calls end: great, deep and endless ones first.
func bad() []api.Term {
	without := atom("a")
	for range 200 {
		without = compound("f", without, without)
	}
	variables := compound("f", variable(0), variable(1))
	for range 100 {
		variables = compound(".", variables, variables)
	}
	l := []api.Term{
		round("f", 0, 1), round(".", 0, 2), round(".", 1, 2), round("f", 0, 5000), round("f", 4999, 5000), without, variables,
		nested(atom("a"), 1000000), term.List(many(variable(0), 1000000), variable(0)), compound("f", row(1000000, variable)...),
	}
	a := []api.Term{atom("a")}
	return append(append(l, turns()...),
		api.Term{},
		api.Term{Kind: 5}, api.Term{Kind: 5, Args: round("f", 0, 1).Args}, api.Term{Kind: -1, N: -1, Name: "a", Args: a},
		api.Term{Kind: math.MinInt, Args: round("f", 1, 2).Args}, api.Term{Kind: math.MaxInt},
		variable(-1), variable(math.MinInt), compound("f", variable(-1), variable(math.MinInt)),
		compound("f"), compound("."), compound("f", api.Term{}), term.List([]api.Term{{}}, api.Term{}), api.Term{Kind: api.Cmp, Args: a[:0]},
		atom("\x00"), atom("é"), compound("\xff", a...), atom(strings.Repeat("a", api.MaxText+1)),
	)
}

// fields are terms that have something in a field that their Kind does not have.
func fields() []api.Term {
	args := round("f", 0, 2).Args
	return []api.Term{
		{Kind: api.Var, N: 1, Name: "a", Args: args}, {Kind: api.Var, Name: "\x00"}, {Kind: api.Int, N: 1, Name: "a", Args: args},
		{Kind: api.Atom, N: -1, Name: ".", Args: args}, {Kind: api.Atom, Name: "a", Args: []api.Term{{}}}, {Kind: api.Cmp, N: -1, Name: ".", Args: many(atom("a"), 2)},
	}
}

// endAll makes each call that takes one term.
func endAll(x api.Term) {
	term.Size(x)
	term.Depth(x)
	term.Vars(x)
	term.Shift(x, 3)
	term.Shift(x, math.MinInt)
	term.Shift(x, math.MaxInt)
	term.Subst(x, nil)
	term.Subst(x, []api.Term{atom("a"), x})
	term.Subst(compound("f", variable(0), variable(1)), []api.Term{x, {}})
	term.Unlist(x)
	term.List([]api.Term{x, x}, x)
	term.Sort([]api.Term{x})
	term.Sort([]api.Term{x, atom("b"), x})
}

// TestBad is R1: calls end, and do not panic, of terms of which write.Good is false, alone, in others, and against each other.
func TestBad(t *testing.T) {
	l := bad()
	for i, x := range l {
		if write.Good(x) {
			t.Errorf("the term %d is good", i)
		}
		endAll(x)
		endAll(compound("f", atom("a"), x))
		endAll(compound(".", x, x))
	}
	l = append(l, fields()...)
	for _, x := range fields() {
		endAll(x)
		endAll(compound("f", x, x))
	}
	l = append(append(l, bad()...), variable(0), integer(0), atom("a"), compound("f", atom("a")))
	for _, x := range l {
		for _, y := range l {
			term.Compare(x, y)
			term.Variant(x, y)
			term.Compare(compound("f", x, y), compound("f", x, x))
			term.Variant(compound("f", x, y), compound("f", y, x))
		}
	}
	term.Sort(l)
}

// TestBadSort is R1: terms whose order is none.
func TestBadSort(t *testing.T) {
	var l []api.Term
	for range 60 {
		l = append(append(l, round("f", 0, 1), round(".", 1, 2), atom("a"), integer(len(l))), turns()...)
	}
	term.Sort(l)
	if got := term.Sort(many(round("f", 0, 1), 300)); len(got) == 0 {
		t.Error("none")
	}
}

// TestGoodBeside is R5: calls on what may not be change nothing of the others.
func TestGoodBeside(t *testing.T) {
	x, l := of(t, `f(_2,[a,_0])`), bad()[:7]
	for range 3 {
		checkParts(t, "f(_2,[a,_0])", x, 7, 4, []int{2, 0})
		checkVariant(t, x, of(t, `f(_0,[a,_2])`), true)
		checkSubst(t, x, []api.Term{integer(1)}, of(t, `f(_2,[a,1])`))
		for _, y := range l {
			endAll(y)
			term.Compare(y, y)
			term.Variant(y, y)
		}
	}
}
