package unify_test

import (
	"math"
	"strings"
	"testing"

	"coney/api"
	"coney/unify"
	"coney/write"
)

// round has itself at that place of so many Args.
func round(name string, at, n int) api.Term {
	args := many(atom("a"), n)
	args[at] = compound(name, args...)
	return args[at]
}

// turns are two terms that have each other, and variables.
func turns() (api.Term, api.Term) {
	a, b := make([]api.Term, 2), make([]api.Term, 2)
	a[0], a[1] = variable(0), compound("f", b...)
	b[0], b[1] = compound("f", a...), variable(1)
	return compound("f", a...), compound("f", b...)
}

// bad are terms of which write.Good is false, and nothing is promised but that calls end.
func bad() []api.Term {
	doubled := compound("f", variable(0), variable(1))
	for range 200 {
		doubled = compound("f", doubled, doubled)
	}
	one, other := turns()
	a := []api.Term{atom("a")}
	return []api.Term{
		round("f", 0, 1), round("f", 0, 2), round("f", 1, 2), round("g", 0, 5000), round("g", 4999, 5000), one, other, doubled,
		nested(atom("a"), 20000), nested(variable(0), 100000), compound("f", row(100000, variable)...),
		{}, {Kind: 5}, {Kind: 5, Args: round("f", 0, 1).Args}, {Kind: -1, N: -1, Name: "a", Args: a}, {Kind: math.MinInt, Args: one.Args}, {Kind: math.MaxInt},
		variable(-1), variable(math.MinInt), compound("f", variable(-1), variable(math.MinInt)),
		compound("f"), compound("f", compound("f")), {Kind: api.Cmp, Args: a[:0]}, compound("f", api.Term{}, api.Term{}),
		atom("\x00"), atom("é"), compound("é", a...), atom(strings.Repeat("a", api.MaxText+1)), compound("f", many(atom("a"), api.MaxTokens)...),
	}
}

// fields are terms that have something in a field that their Kind does not have.
func fields() []api.Term {
	args := round("f", 0, 2).Args
	return []api.Term{
		{Kind: api.Var, N: 1, Name: "a", Args: args}, {Kind: api.Var, Name: "\x00"}, {Kind: api.Int, N: 1, Name: "a", Args: args},
		{Kind: api.Atom, N: -1, Name: "f", Args: args}, {Kind: api.Atom, Name: "a", Args: []api.Term{{}}}, {Kind: api.Cmp, N: -1, Name: "f", Args: many(variable(1), 2)},
	}
}

// endAll makes all calls on a term.
func endAll(e *unify.Env, x api.Term) {
	e.Resolve(x)
	e.Bound(x.N)
	for _, most := range []int{-1, 0, 1000, math.MaxInt} {
		e.Size(x, most)
	}
}

// TestBad is R1: calls end, and do not panic, of terms that may not be, against each other, and where variables are bound to them.
func TestBad(t *testing.T) {
	l := bad()
	for i, x := range l {
		if write.Good(x) {
			t.Errorf("the term %d is good", i)
		}
	}
	l = append(append(l, fields()...), bad()[:9]...)
	ends("a call of what may not be", func() {
		for _, x := range l {
			e := unify.New()
			endAll(e, x)
			e.Unify(variable(7), x)
			for _, y := range l {
				ahead := e.Bound(8)
				if _, errno := e.Unify(y, variable(8)); errno != api.OK && e.Bound(8) != ahead {
					t.Fatal("bound in spite of an error")
				}
				e.Unify(x, y)
				e.Unify(compound("f", variable(9), y), compound("f", x, variable(8)))
				e.Unify(variable(7), variable(8))
			}
			endAll(e, x)
			endAll(e, compound("f", variable(7), variable(8), variable(0)))
		}
	})
}

// TestTold is R1: what Resolve tells, though it is greater than a term that may be, is handed in again.
func TestTold(t *testing.T) {
	ends("a call of what was told", func() {
		e := unify.New()
		doubled(t, e, 0, 300)
		told := e.Resolve(compound("f", variable(300), variable(299)))
		checkSize(t, e, told, math.MaxInt, 1<<20+1)
		checkUnify(t, e, variable(301), told, []int{301}, api.OK)
		checkUnify(t, e, variable(0), told, nil, api.ErrUnlike)
		checkUnify(t, e, variable(0), variable(301), nil, api.ErrUnlike)
		checkUnify(t, e, told, variable(300), nil, api.ErrUnlike)
		checkUnify(t, e, told, told, nil, api.ErrMany)
		checkUnify(t, e, variable(0), atom("a"), []int{0}, api.OK)
		again := e.Resolve(told)
		for len(again.Args) > 0 {
			again = again.Args[0]
		}
		if !same(again, atom("a")) {
			t.Errorf("within all: %s", text(again))
		}
	})
}

// TestBeside is R5: of what may be, beside what may not be, calls tell what the chapter says.
func TestBeside(t *testing.T) {
	e := unify.New()
	for _, x := range bad() {
		e.Unify(variable(1), x)
		e.Unify(x, x)
	}
	e = unify.New()
	for _, x := range bad()[:7] {
		endAll(e, x)
		e.Unify(x, atom("b"))
		e.Unify(compound("f", variable(3), x), compound("f", atom("a"), atom("b")))
	}
	checkBound(t, e)
	checkUnify(t, e, of(t, `f(_3,_2)`), of(t, `f(b,_1)`), []int{3, 2}, api.OK)
	checkResolve(t, e, of(t, `f(_3,_2,_1)`), of(t, `f(b,_1,_1)`))
}
