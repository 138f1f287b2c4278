package unify_test

import (
	"math"
	"math/rand"
	"slices"
	"strings"
	"testing"

	"coney/api"
	"coney/unify"
)

// A call is of Unify, and what it is to tell.
type call struct {
	a, b  string
	bound []int
	errno api.Errno
}

// checkCalls makes calls one behind the other in a new environment, and tells that.
func checkCalls(t *testing.T, calls []call) *unify.Env {
	t.Helper()
	e := unify.New()
	var bound []int
	for _, x := range calls {
		a, b := of(t, x.a), of(t, x.b)
		checkUnify(t, e, a, b, x.bound, x.errno)
		if bound = append(bound, x.bound...); x.errno == api.OK {
			checkResolve(t, e, a, e.Resolve(b))
		}
		checkBound(t, e, bound...)
	}
	return e
}

// TestAlike is P8.1 of two terms in a new environment, either way round: what both resolve to, the numbers that are bound.
func TestAlike(t *testing.T) {
	for _, x := range []struct {
		a, b, both string
		bound      []int
	}{
		{`_0`, `_0`, `_0`, nil},
		{`_7`, `_7`, `_7`, nil},
		{`_0`, `_1`, `_0`, []int{1}},
		{`_9`, `_10`, `_9`, []int{10}},
		{`_0`, `a`, `a`, []int{0}},
		{`_3`, `-5`, `-5`, []int{3}},
		{`_3`, `[]`, `[]`, []int{3}},
		{`_3`, `f(a)`, `f(a)`, []int{3}},
		{`_3`, `f(_4)`, `f(_4)`, []int{3}},
		{`_4`, `f(_3)`, `f(_3)`, []int{4}},
		{`_4`, `[_3|_2]`, `[_3|_2]`, []int{4}},
		{`1`, `1`, `1`, nil},
		{`0`, `0`, `0`, nil},
		{`-9223372036854775808`, `-9223372036854775808`, `-9223372036854775808`, nil},
		{`a`, `a`, `a`, nil},
		{`''`, `''`, `''`, nil},
		{`[]`, `'[]'`, `[]`, nil},
		{`f(a)`, `f(a)`, `f(a)`, nil},
		{`f(a,1,[b])`, `f(a,1,[b])`, `f(a,1,[b])`, nil},
		{`[a,b]`, `'.'(a,'.'(b,[]))`, `[a,b]`, nil},
		{`f(_0)`, `f(_0)`, `f(_0)`, nil},
		{`f(_0)`, `f(_1)`, `f(_0)`, []int{1}},
		{`f(_0)`, `f(a)`, `f(a)`, []int{0}},
		{`f(_0,b)`, `f(a,_1)`, `f(a,b)`, []int{0, 1}},
		{`f(_1,b)`, `f(a,_0)`, `f(a,b)`, []int{1, 0}},
		{`f(_0,_0)`, `f(a,a)`, `f(a,a)`, []int{0}},
		{`f(_0,_0)`, `f(_1,a)`, `f(a,a)`, []int{1, 0}},
		{`f(_0,_0)`, `f(a,_1)`, `f(a,a)`, []int{0, 1}},
		{`f(_1,_1)`, `f(_0,a)`, `f(a,a)`, []int{1, 0}},
		{`f(_0,_1)`, `f(_1,_0)`, `f(_0,_0)`, []int{1}},
		{`f(_0,_1,_2)`, `f(_1,_2,_0)`, `f(_0,_0,_0)`, []int{1, 2}},
		{`f(_1,_0,_2)`, `f(_2,_1,a)`, `f(a,a,a)`, []int{2, 1, 0}},
		{`f(_5,_3,_4)`, `f(a,b,c)`, `f(a,b,c)`, []int{5, 3, 4}},
		{`f(g(_2),_1)`, `f(_1,g(_0))`, `f(g(_0),g(_0))`, []int{1, 2}},
		{`f(_2,h(_1,g(_0)))`, `f(1,h(2,g(3)))`, `f(1,h(2,g(3)))`, []int{2, 1, 0}},
		{`f(h(_2,_1),_0)`, `f(h(1,2),3)`, `f(h(1,2),3)`, []int{2, 1, 0}},
		{`f(_0,_0)`, `f(g(_1),g(a))`, `f(g(a),g(a))`, []int{0, 1}},
		{`f(_0,_1,_0)`, `f(g(_1),g(_2),g(g(a)))`, `f(g(g(a)),g(a),g(g(a)))`, []int{0, 1, 2}},
		{`[_0,_1|_2]`, `[a,b,c,d]`, `[a,b,c,d]`, []int{0, 1, 2}},
		{`[_0|_1]`, `[a]`, `[a]`, []int{0, 1}},
		{`[a,_0]`, `[_1|_2]`, `[a,_0]`, []int{1, 2}},
		{`+(_0,1)`, `+(2,_1)`, `2+1`, []int{0, 1}},
		{`f(_0,_1,_2,_3)`, `f(g(_1,_1),g(_2,_2),g(_3,_3),a)`, `f(g(g(g(a,a),g(a,a)),g(g(a,a),g(a,a))),g(g(a,a),g(a,a)),g(a,a),a)`, []int{0, 1, 2, 3}},
	} {
		for _, turned := range []bool{false, true} {
			a, b, both := of(t, x.a), of(t, x.b), of(t, x.both)
			if turned {
				a, b = b, a
			}
			e := unify.New()
			checkUnify(t, e, a, b, x.bound, api.OK)
			checkResolve(t, e, a, both)
			checkResolve(t, e, b, both)
			checkBound(t, e, x.bound...)
			checkUnify(t, e, a, b, nil, api.OK)
			checkUnify(t, e, both, b, nil, api.OK)
			checkBound(t, e, x.bound...)
		}
	}
}

// TestUnlike is P8.1 of what can't be made the same, either way round: integers, atoms and compound terms by Name and by how many Args, and variables against what has them.
func TestUnlike(t *testing.T) {
	for _, x := range []struct{ a, b string }{
		{`1`, `2`}, {`1`, `-1`}, {`0`, `4294967296`}, {`9223372036854775807`, `-9223372036854775808`}, {`-9223372036854775808`, `0`},
		{`1`, `'1'`}, {`0`, `''`}, {`0`, `a`}, {`1`, `f(1)`}, {`0`, `''(a)`},
		{`a`, `b`}, {`a`, `ab`}, {`ab`, `a`}, {`a`, `'A'`}, {`''`, `a`}, {`[]`, `{}`}, {`[]`, `'.'`}, {`+`, `-`},
		{`a`, `a(a)`}, {`f`, `f(_0)`}, {`[]`, `[_0]`}, {`'.'`, `[_0]`},
		{`f(a)`, `g(a)`}, {`f(_0)`, `g(_0)`}, {`f(_0)`, `g(_1)`}, {`f(a)`, `ff(a)`}, {`f(_0)`, `f(_0,_0)`}, {`f(_0,_1)`, `f(_0,_1,_2)`}, {`f(_0,_1)`, `g(_0,_1)`},
		{`f(a)`, `f(b)`}, {`f(1)`, `f(2)`}, {`f(a,b)`, `f(a,c)`}, {`f(b,a)`, `f(c,a)`}, {`f(a,b)`, `f(b,a)`}, {`f(g(a))`, `f(g(b))`}, {`f(g(a))`, `f(h(a))`}, {`f(g(a))`, `f(a)`},
		{`[a]`, `[]`}, {`[a]`, `[b]`}, {`[a]`, `[a,b]`}, {`[a|b]`, `[a]`}, {`[a,b|_0]`, `[a]`},
		{`f(_0,_0)`, `f(a,b)`}, {`f(_0,a)`, `f(b,_0)`}, {`f(_0,_1,_0)`, `f(_1,a,b)`}, {`f(_0,_1,_1)`, `f(_1,a,b)`}, {`f(_0,_1,_0,_1)`, `f(a,b,_1,_0)`},
		{`f(_0,_0)`, `f(g(a),g(b))`}, {`f(_0,_0)`, `f(g(_1),h(_1))`}, {`f(_0,_0)`, `f(g(_1),g(_1,_1))`}, {`f(_0,_0)`, `f(1,a)`}, {`f(_0,_1)`, `f(g(_1),a,b)`},
		// at once
		{`_0`, `f(_0)`}, {`_5`, `f(_5)`}, {`_0`, `f(a,_0)`}, {`_0`, `[_0]`}, {`_0`, `[a|_0]`}, {`f(_0)`, `f(f(_0))`}, {`f(b,_0)`, `f(b,g(_0))`},
		// deep within
		{`_0`, `f(g(h(i(_0))))`}, {`_1`, `f(a,g(b,h(_2,_1)),c)`}, {`_2`, `[a,b,[c,[_2]]]`}, {`_0`, `[a,b,c,d|_0]`},
		// only by what another variable stands for
		{`f(_0,_1)`, `f(g(_1),_0)`}, {`f(_0,_1)`, `f(g(_1),g(_0))`}, {`f(_1,_0)`, `f(g(_0),g(_1))`}, {`f(_0,_1)`, `f(_1,g(_0))`}, {`f(_0,_0)`, `f(_1,g(_1))`}, {`f(_1,_0)`, `f(_0,g(_1))`},
		{`f(_0,_1,_2)`, `f(g(_1),g(_2),g(_0))`}, {`f(_2,_1,_0)`, `f(g(_1),g(_0),g(_2))`}, {`f(_1,_2,_0)`, `f(g(_2),g(_0),g(a,_1))`}, {`f(_0,_1,_2)`, `f(_1,_2,g(_0))`},
		{`f(_0,_1,_2,_1)`, `f(h(a,_3),_3,g(_0),_2)`}, {`f(_0,_0)`, `f(f(_0),f(_0))`}, {`f(_0,_1,_0)`, `f(g(_2),g(_2),_2)`}, {`f(_0,g(_0))`, `f(g(_1),_1)`}, {`f(_0,_0)`, `f(g(_1),g(g(_1)))`},
	} {
		for _, turned := range []bool{false, true} {
			a, b := of(t, x.a), of(t, x.b)
			if turned {
				a, b = b, a
			}
			e := unify.New()
			for range 2 {
				checkUnify(t, e, a, b, nil, api.ErrUnlike)
				checkBound(t, e)
				checkResolve(t, e, a, a)
				checkResolve(t, e, b, b)
			}
		}
	}
}

// TestExamples is the chapter's.
func TestExamples(t *testing.T) {
	e := checkCalls(t, []call{{`f(_0,b)`, `f(a,_1)`, []int{0, 1}, api.OK}})
	checkResolve(t, e, of(t, `g(_0,_1)`), of(t, `g(a,b)`))
	checkCalls(t, []call{{`_0`, `f(_0)`, nil, api.ErrUnlike}, {`f(_0,a)`, `f(b,c)`, nil, api.ErrUnlike}})
}

// TestSteps is P8.1 of variables that stand for others and for terms, over one step and over more, and of what was bound ahead.
func TestSteps(t *testing.T) {
	for _, x := range []struct {
		calls    []call
		resolved string // of f(_0,_1,_2,_3,_4)
	}{
		{[]call{{`_4`, `_3`, []int{4}, 0}, {`_3`, `_2`, []int{3}, 0}, {`_2`, `_1`, []int{2}, 0}, {`_1`, `_0`, []int{1}, 0}, {`_4`, `_0`, nil, 0}, {`_4`, `a`, []int{0}, 0}}, `f(a,a,a,a,a)`},
		{[]call{{`_1`, `_0`, []int{1}, 0}, {`_1`, `_2`, []int{2}, 0}, {`_3`, `_2`, []int{3}, 0}, {`_3`, `_4`, []int{4}, 0}, {`_2`, `a`, []int{0}, 0}, {`_4`, `a`, nil, 0}}, `f(a,a,a,a,a)`},
		{[]call{{`_0`, `_4`, []int{4}, 0}, {`_4`, `_3`, []int{3}, 0}, {`_1`, `_2`, []int{2}, 0}, {`_2`, `_3`, []int{1}, 0}, {`_2`, `_4`, nil, 0}}, `f(_0,_0,_0,_0,_0)`},
		{[]call{{`_3`, `_4`, []int{4}, 0}, {`_1`, `_2`, []int{2}, 0}, {`_4`, `_2`, []int{3}, 0}, {`_4`, `_0`, []int{1}, 0}, {`_3`, `f(_5)`, []int{0}, 0}, {`_2`, `f(b)`, []int{5}, 0}}, `f(f(b),f(b),f(b),f(b),f(b))`},
		{[]call{{`_4`, `_3`, []int{4}, 0}, {`_3`, `g(_2)`, []int{3}, 0}, {`_4`, `g(a)`, []int{2}, 0}, {`_4`, `g(b)`, nil, api.ErrUnlike}, {`_2`, `_1`, []int{1}, 0}}, `f(_0,a,a,g(a),g(a))`},
		{[]call{{`_0`, `a`, []int{0}, 0}, {`_0`, `b`, nil, api.ErrUnlike}, {`_0`, `a`, nil, 0}, {`_1`, `_0`, []int{1}, 0}, {`_0`, `_2`, []int{2}, 0}, {`_2`, `_1`, nil, 0}, {`_2`, `a(a)`, nil, api.ErrUnlike}}, `f(a,a,a,_3,_4)`},
		{[]call{{`_0`, `g(_1)`, []int{0}, 0}, {`_2`, `g(_3)`, []int{2}, 0}, {`_0`, `_2`, []int{3}, 0}, {`_3`, `1`, []int{1}, 0}, {`_2`, `_4`, []int{4}, 0}}, `f(g(1),1,g(1),1,g(1))`},
		{[]call{{`_0`, `g(_1)`, []int{0}, 0}, {`_1`, `g(_2)`, []int{1}, 0}, {`_2`, `g(_0)`, nil, api.ErrUnlike}, {`_2`, `_0`, nil, api.ErrUnlike}, {`_2`, `_1`, nil, api.ErrUnlike}, {`_2`, `g(_3)`, []int{2}, 0}}, `f(g(g(g(_3))),g(g(_3)),g(_3),_3,_4)`},
		{[]call{{`_1`, `_0`, []int{1}, 0}, {`_0`, `g(_1)`, nil, api.ErrUnlike}, {`_1`, `g(_0)`, nil, api.ErrUnlike}, {`_1`, `g(_1)`, nil, api.ErrUnlike}, {`_1`, `g(_2)`, []int{0}, 0}, {`_2`, `_0`, nil, api.ErrUnlike}}, `f(g(_2),g(_2),_2,_3,_4)`},
		{[]call{{`_3`, `_2`, []int{3}, 0}, {`_1`, `g(_3)`, []int{1}, 0}, {`_2`, `h(_1)`, nil, api.ErrUnlike}, {`_3`, `h(_1)`, nil, api.ErrUnlike}, {`_0`, `h(_1)`, []int{0}, 0}, {`_3`, `_0`, nil, api.ErrUnlike}, {`_3`, `a`, []int{2}, 0}}, `f(h(g(a)),g(a),a,a,_4)`},
		{[]call{{`_0`, `[a|_1]`, []int{0}, 0}, {`_1`, `[b|_2]`, []int{1}, 0}, {`_0`, `[_3,_4|[]]`, []int{3, 4, 2}, 0}}, `f([a,b],[b],[],a,b)`},
	} {
		e := checkCalls(t, x.calls)
		checkResolve(t, e, compound("f", row(5, variable)...), of(t, x.resolved))
	}
}

// TestNothingBound is P8.1: behind bindings of its own a Unify that fails takes them all back, and none of an earlier one.
func TestNothingBound(t *testing.T) {
	ahead := []call{{`f(_4,_6)`, `f(_3,g(_5))`, []int{4, 6}, 0}, {`_8`, `_7`, []int{8}, 0}, {`_9`, `b`, []int{9}, 0}}
	for _, x := range []struct{ a, b string }{
		{`f(_0,a)`, `f(a,b)`},
		{`f(_0,_1,_2,a)`, `f(1,_0,_1,b)`},
		{`f(_2,_1,_0,a)`, `f(_1,_0,1,b)`},
		{`f(_4,a)`, `f(b,b)`},
		{`f(_4,_4,a)`, `f(_2,_1,b)`},
		{`f(_3,_8,_3,a)`, `f(_8,_0,c,b)`},
		{`f(_7,_4,a)`, `f(_4,_2,b)`},
		{`f(_6,_5,_7,a)`, `f(g(_8),_3,c,b)`},
		{`f(_0,_1,_2)`, `f(_6,g(_0),g(_2))`},
		{`f(_0,_1,_2,_5)`, `f(_6,g(_0),g(_2),_1)`},
		{`f(_5,_6,_9)`, `f(_9,g(b),c)`},
		{`f(_10,_11,_12,_13,_10,_12,_10,a)`, `f(_11,_12,_13,_14,_4,_8,_9,_6)`},
		{`f(_8,_7,_7)`, `f(_4,_1,h(_3))`},
	} {
		e := checkCalls(t, ahead)
		all := compound("f", row(16, variable)...)
		want := e.Resolve(all)
		for range 3 {
			checkUnify(t, e, of(t, x.a), of(t, x.b), nil, api.ErrUnlike)
			checkUnify(t, e, of(t, x.b), of(t, x.a), nil, api.ErrUnlike)
			checkBound(t, e, 4, 6, 8, 9)
			checkResolve(t, e, all, want)
		}
		checkUnify(t, e, of(t, `f(_8,_4,_3,_6)`), of(t, `f(_2,_2,_1,g(z))`), []int{7, 3, 2, 5}, api.OK)
		checkUnify(t, e, of(t, `f(_0,_0)`), of(t, `f(_8,y)`), []int{1, 0}, api.OK)
		checkResolve(t, e, all, of(t, `f(y,y,y,y,y,z,g(z),y,y,b,_10,_11,_12,_13,_14,_15)`))
	}
}

// TestEdges is P8.1 of the greatest numbers of variables, of names that are long and of bytes that are none of a text.
func TestEdges(t *testing.T) {
	e := unify.New()
	last := variable(math.MaxInt)
	checkUnify(t, e, last, variable(math.MaxInt-1), []int{math.MaxInt}, api.OK)
	checkUnify(t, e, last, variable(0), []int{math.MaxInt - 1}, api.OK)
	checkUnify(t, e, compound("f", last), variable(0), nil, api.ErrUnlike)
	checkUnify(t, e, atom("a"), last, []int{0}, api.OK)
	if !e.Bound(math.MaxInt) || !e.Bound(math.MaxInt-1) || !e.Bound(0) || e.Bound(math.MaxInt-2) || e.Bound(math.MinInt) || e.Bound(-1) {
		t.Error("Bound")
	}
	checkResolve(t, e, compound("f", variable(math.MaxInt-1), variable(math.MaxInt-2)), compound("f", atom("a"), variable(math.MaxInt-2)))
	long := strings.Repeat("a", api.MaxText)
	checkUnify(t, e, atom(long), atom(strings.Clone(long)), nil, api.OK)
	checkUnify(t, e, atom(long), atom(long[1:]), nil, api.ErrUnlike)
	checkUnify(t, e, compound(long, atom("a")), compound(long[1:]+"b", atom("a")), nil, api.ErrUnlike)
	checkUnify(t, e, compound("\xff", atom("a")), compound("\xfe", atom("a")), nil, api.ErrUnlike)
}

// TestApart is R5 and R3: two environments have nothing in common.
func TestApart(t *testing.T) {
	one, other := unify.New(), unify.New()
	checkUnify(t, one, variable(0), atom("a"), []int{0}, api.OK)
	checkBound(t, other)
	checkUnify(t, other, of(t, `f(_0,_1)`), of(t, `f(b,_2)`), []int{0, 2}, api.OK)
	checkBound(t, one, 0)
	checkUnify(t, one, of(t, `f(_0,_1)`), of(t, `f(b,_2)`), nil, api.ErrUnlike)
	checkResolve(t, one, of(t, `f(_0,_1,_2)`), of(t, `f(a,_1,_2)`))
	checkResolve(t, other, of(t, `f(_0,_1,_2)`), of(t, `f(b,_1,_1)`))
	checkBound(t, unify.New())
}

// TestTurned is P8.4: Unify of a and b, and of b and a, make the same Resolve of every term, and that of both is the same.
func TestTurned(t *testing.T) {
	r := rand.New(rand.NewSource(84))
	all := compound("all", row(5, variable)...)
	made := 0
	for range 20000 {
		one, other := unify.New(), unify.New()
		for range 4 {
			a, b := random(r, 3), random(r, 3)
			bound, errno := one.Unify(a, b)
			turned, again := other.Unify(b, a)
			if !slices.Equal(bound, turned) || errno != again {
				t.Fatalf("Unify(%s, %s) = %v, %d; turned about %v, %d", text(a), text(b), bound, errno, turned, again)
			}
			if errno == api.OK {
				made++
				checkResolve(t, one, a, one.Resolve(b))
			}
			checkResolve(t, other, all, one.Resolve(all))
			checkResolve(t, other, a, one.Resolve(a))
		}
	}
	if made < 20000 {
		t.Errorf("only %d made the same", made)
	}
}
