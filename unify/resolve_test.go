package unify_test

import (
	"math"
	"testing"

	"coney/api"
	"coney/term"
	"coney/unify"
)

// TestResolve is P8.2, behind the same calls: what is bound over some steps, within other terms, and not at all.
func TestResolve(t *testing.T) {
	e := checkCalls(t, []call{
		{`_1`, `_0`, []int{1}, 0}, {`_2`, `_1`, []int{2}, 0},
		{`_4`, `_3`, []int{4}, 0}, {`_3`, `a`, []int{3}, 0},
		{`_5`, `g(_6,_2)`, []int{5}, 0}, {`_6`, `h(_7)`, []int{6}, 0}, {`_8`, `_5`, []int{8}, 0},
		{`_9`, `[_4|_10]`, []int{9}, 0}, {`_10`, `[_0|_11]`, []int{10}, 0}, {`_11`, `[]`, []int{11}, 0},
		{`_12`, `-7`, []int{12}, 0},
		{`_13`, `f(a,b)`, []int{13}, 0},
	})
	for _, x := range []struct{ t, want string }{
		{`_0`, `_0`}, {`_1`, `_0`}, {`_2`, `_0`}, {`_3`, `a`}, {`_4`, `a`}, {`_5`, `g(h(_7),_0)`}, {`_6`, `h(_7)`}, {`_7`, `_7`}, {`_8`, `g(h(_7),_0)`},
		{`_9`, `[a,_0]`}, {`_10`, `[_0]`}, {`_11`, `[]`}, {`_12`, `-7`}, {`_13`, `f(a,b)`}, {`_14`, `_14`}, {`_9223372036854775807`, `_9223372036854775807`},
		{`5`, `5`}, {`-7`, `-7`}, {`a`, `a`}, {`[]`, `[]`}, {`'_4'`, `'_4'`}, {`f(a,1)`, `f(a,1)`}, {`f(_7)`, `f(_7)`}, {`f(_14,_7,_0)`, `f(_14,_7,_0)`},
		{`f(_2)`, `f(_0)`}, {`f(_4,_4)`, `f(a,a)`}, {`f(_4,b,_4,_0)`, `f(a,b,a,_0)`}, {`f(g(h(_2)),_3)`, `f(g(h(_0)),a)`},
		{`f(_8,_5,_6)`, `f(g(h(_7),_0),g(h(_7),_0),h(_7))`}, {`[_12,_9|_10]`, `[-7,[a,_0],_0]`}, {`[_9|_13]`, `[[a,_0]|f(a,b)]`},
	} {
		checkResolve(t, e, of(t, x.t), of(t, x.want))
		checkResolve(t, e, of(t, x.want), of(t, x.want))
	}
	checkBound(t, e, 1, 2, 3, 4, 5, 6, 8, 9, 10, 11, 12, 13)
}

// TestResolveNew is P8.2 in a new environment: each term is told as it is.
func TestResolveNew(t *testing.T) {
	e := unify.New()
	for _, text := range []string{`_0`, `_5`, `1`, `a`, `[]`, `f(a)`, `f(_0,_1,g(_0))`, `[_0,a|_1]`} {
		checkResolve(t, e, of(t, text), of(t, text))
	}
	const n = api.MaxTokens - 1
	for _, x := range []api.Term{compound("f", row(n, variable)...), nested(variable(0), n), term.List(row(499, variable), variable(600))} {
		checkResolve(t, e, x, copied(x))
	}
	checkBound(t, e)
}

// TestGreatResolve is P8.2 of what is greater, and stands deeper, than a term that may be.
func TestGreatResolve(t *testing.T) {
	e := unify.New()
	const n = api.MaxTokens - 1
	wide, deep := compound("g", many(variable(1), n)...), nested(variable(3), n)
	checkUnify(t, e, variable(0), wide, []int{0}, api.OK)
	checkUnify(t, e, variable(2), deep, []int{2}, api.OK)
	checkUnify(t, e, variable(3), nested(atom("b"), n), []int{3}, api.OK)
	checkResolve(t, e, compound("f", many(variable(0), 300)...), compound("f", many(copied(wide), 300)...))
	checkResolve(t, e, compound("f", many(variable(2), 300)...), compound("f", many(nested(atom("b"), 2*n), 300)...))
	checkUnify(t, e, variable(1), atom("a"), []int{1}, api.OK)
	checkResolve(t, e, compound("f", many(variable(0), 300)...), compound("f", many(compound("g", many(atom("a"), n)...), 300)...))
}

// TestBound is P8.2: ahead of a Unify, behind it, and behind one that fails.
func TestBound(t *testing.T) {
	e := unify.New()
	checkBound(t, e)
	checkUnify(t, e, of(t, `f(_3,_1,_2)`), of(t, `f(_1,g(_5,_6),_2)`), []int{3, 1}, api.OK)
	checkBound(t, e, 1, 3)
	checkUnify(t, e, of(t, `f(_5,_2,_7,_4,a)`), of(t, `f(_2,a,_8,_3,b)`), nil, api.ErrUnlike)
	checkBound(t, e, 1, 3)
	e.Resolve(of(t, `f(_3,_9)`))
	e.Size(of(t, `f(_3,_10)`), 9)
	checkBound(t, e, 1, 3)
	checkUnify(t, e, of(t, `f(_5,_2,_7,_4,a)`), of(t, `f(_2,a,_8,_3,a)`), []int{5, 2, 8, 4}, api.OK)
	checkBound(t, e, 1, 2, 3, 4, 5, 8)
}

func checkSize(t *testing.T, e *unify.Env, x api.Term, most, want int) {
	t.Helper()
	if got := e.Size(x, most); got != want {
		t.Errorf("Size(%s, %d) = %d, want %d", text(x), most, got, want)
	}
}

// TestSize is P8.3: at most, one above it and one below it, and what counts as 0 and as 2^20.
func TestSize(t *testing.T) {
	e := checkCalls(t, []call{
		{`_1`, `_0`, []int{1}, 0}, {`_2`, `g(_1,_3)`, []int{2}, 0}, {`_3`, `h(a,b,1)`, []int{3}, 0}, {`_5`, `_4`, []int{5}, 0}, {`_4`, `[_2,_2|_0]`, []int{4}, 0},
	})
	for _, x := range []struct {
		t    string
		size int
	}{
		{`_0`, 1}, {`_1`, 1}, {`_9`, 1}, {`a`, 1}, {`[]`, 1}, {`-3`, 1},
		{`_3`, 4}, {`_2`, 6}, {`_4`, 15}, {`_5`, 15},
		{`f(a)`, 2}, {`f(_1)`, 2}, {`f(_3)`, 5}, {`f(_3,_3)`, 9}, {`f(_2,_3,_0)`, 12}, {`f(g(_2),[_3,a])`, 16}, {`f(_5,f(_5),_1)`, 33}, {`[_4|_4]`, 31},
	} {
		y := of(t, x.t)
		for most := -2; most < 50; most++ {
			checkSize(t, e, y, most, min(x.size, max(most, 0)+1))
		}
		for _, most := range []int{1 << 20, 1<<20 + 1, 1 << 40, math.MaxInt} {
			checkSize(t, e, y, most, x.size)
		}
		checkSize(t, e, y, math.MinInt, 1)
	}
}

// TestGreatSize is P8.3 at 2^20, which the Size of a variable is, or more by one, or far more.
func TestGreatSize(t *testing.T) {
	e := unify.New()
	// 2^(n + 1) - 1 parts has the variable n.
	doubled(t, e, 0, 500)
	const top = 1 << 20
	for _, x := range []struct {
		t    api.Term
		size int
	}{
		{variable(8), 511}, {variable(18), 1<<19 - 1}, {variable(19), top - 1},
		{compound("f", variable(19)), top}, {nested(variable(19), 2), top + 1}, {nested(variable(19), 3), top + 1}, {compound("f", variable(19), atom("a")), top + 1},
		{variable(20), top + 1}, {variable(21), top + 1}, {variable(40), top + 1}, {variable(64), top + 1}, {variable(500), top + 1}, {nested(variable(500), 900), top + 1},
	} {
		for _, most := range []int{math.MinInt, -1, 0, 1, 2, 510, 511, 512, top - 2, top - 1, top, top + 1, math.MaxInt} {
			checkSize(t, e, x.t, most, min(x.size, min(max(most, 0), top)+1))
		}
	}
}
