package unify_test

import (
	"testing"

	"coney/api"
	"coney/term"
	"coney/unify"
	"coney/write"
)

// closing makes two terms, for an environment, whose last Args are l and r, so that the pair of these is that of the number `at`.
func closing(t *testing.T, at int, l, r api.Term) (*unify.Env, api.Term, api.Term) {
	t.Helper()
	e := unify.New()
	great := compound("g", many(atom("a"), 499)...)
	checkUnify(t, e, variable(100), great, []int{100}, api.OK)
	checkUnify(t, e, variable(101), copied(great), []int{101}, api.OK)
	// The pair of both terms is one, those of 100 and 101 are 500 each time.
	args, others := many(variable(100), 3), many(variable(101), 3)
	for range at - 1502 {
		args, others = append(args, atom("b")), append(others, atom("b"))
	}
	a, b := compound("f", append(args, l)...), compound("f", append(others, r)...)
	if !write.Good(a) || !write.Good(b) {
		t.Fatal("terms that may not be")
	}
	return e, a, b
}

// TestMaxPairs is P8.1: MaxPairs pairs and one more, and which error is the first one; `at` is the number of the last Args' pair.
func TestMaxPairs(t *testing.T) {
	const last = api.MaxPairs
	for _, x := range []struct {
		at    int
		l, r  string
		bound []int
		errno api.Errno
	}{
		{last - 1, `c`, `c`, nil, api.OK},
		{last, `c`, `c`, nil, api.OK},
		{last + 1, `c`, `c`, nil, api.ErrMany},
		{last, `c`, `d`, nil, api.ErrUnlike},
		{last + 1, `c`, `d`, nil, api.ErrMany},
		{last, `c`, `c(c)`, nil, api.ErrUnlike},
		{last + 1, `1`, `1`, nil, api.ErrMany},
		{last, `_1`, `_2`, []int{2}, api.OK},
		{last, `_2`, `_1`, []int{2}, api.OK},
		{last, `_1`, `c`, []int{1}, api.OK},
		{last, `h(c,c)`, `_1`, []int{1}, api.OK},
		{last, `_1`, `_1`, nil, api.OK},
		{last + 1, `_1`, `_1`, nil, api.ErrMany},
		{last + 1, `_1`, `_2`, nil, api.ErrMany},
		{last + 1, `_1`, `c`, nil, api.ErrMany},
		{last, `_1`, `h(_1)`, nil, api.ErrUnlike},
		{last + 1, `_1`, `h(_1)`, nil, api.ErrMany},
		{last - 1, `h(c)`, `h(c)`, nil, api.OK},
		{last - 1, `h(c)`, `h(d)`, nil, api.ErrUnlike},
		{last - 2, `h(_1,_2)`, `h(c,d)`, []int{1, 2}, api.OK},
		{last - 2, `h(_1,c)`, `h(c,d)`, nil, api.ErrUnlike},
		{last - 2, `h(_1,_1)`, `h(c,d)`, nil, api.ErrUnlike},
		{last - 2, `h(_1,_2)`, `h(i(_2),i(_1))`, nil, api.ErrUnlike},
		{last, `h(c)`, `h(c)`, nil, api.ErrMany},
		{last, `h(c)`, `h(d)`, nil, api.ErrMany},
		{last, `h(c)`, `i(c)`, nil, api.ErrUnlike},
		{last, `h(c)`, `h(c,c)`, nil, api.ErrUnlike},
		{last - 1, `h(c,c)`, `h(c,c)`, nil, api.ErrMany},
		{last - 1, `h(c,c)`, `h(d,c)`, nil, api.ErrUnlike},
		{last - 1, `h(c,c)`, `h(c,d)`, nil, api.ErrMany},
		{last - 1, `h(_1,_2)`, `h(c,c)`, nil, api.ErrMany},
		{last - 1, `h(_1,_2)`, `h(i(_1),c)`, nil, api.ErrUnlike},
		{last - 1, `h(_1,_2)`, `h(i(_2),i(_1))`, nil, api.ErrMany},
		{last - 2, `h(i(_1),c)`, `h(i(c),c)`, nil, api.ErrMany},
		{last - 2, `h(i(_1),c)`, `h(i(i(_1)),c)`, nil, api.ErrUnlike},
		// once a variable is bound to what has it, its pairs have no end
		{last - 10, `h(_1,_2,_1)`, `h(i(_1),i(_2),_2)`, nil, api.ErrUnlike},
		{last - 10, `h(_1,_2,_1)`, `h(i(_2),i(_1),_2)`, nil, api.ErrUnlike},
	} {
		for _, turned := range []bool{false, true} {
			e, a, b := closing(t, x.at, of(t, x.l), of(t, x.r))
			if turned {
				a, b = b, a
			}
			want := e.Resolve(a)
			checkUnify(t, e, a, b, x.bound, x.errno)
			checkBound(t, e, x.bound...)
			if x.errno != api.OK {
				checkResolve(t, e, a, want)
				checkUnify(t, e, a, b, nil, x.errno)
			} else {
				checkResolve(t, e, b, e.Resolve(a))
				checkUnify(t, e, variable(1), variable(1), nil, api.OK)
			}
		}
	}
}

// TestFirstError is P8.1: of pairs of which an earlier one fails and a later one would too, the earlier one's error.
func TestFirstError(t *testing.T) {
	long := many(variable(100), 4)
	for _, x := range []struct {
		ahead, behind []api.Term // pairs ahead of those that are too many, and behind them
		errno         api.Errno
	}{
		{nil, nil, api.ErrMany},
		{[]api.Term{variable(1), atom("a")}, nil, api.ErrMany},
		{[]api.Term{atom("a"), atom("b")}, nil, api.ErrUnlike},
		{[]api.Term{variable(1), of(t, `h(_1)`)}, nil, api.ErrUnlike},
		{[]api.Term{of(t, `h(_1,_2)`), of(t, `h(i(_2),i(_1))`)}, nil, api.ErrUnlike},
		{[]api.Term{of(t, `h(_1,_2,_1)`), of(t, `h(i(_2),i(_1),_2)`)}, nil, api.ErrUnlike},
		{nil, []api.Term{atom("a"), atom("b")}, api.ErrMany},
		{nil, []api.Term{variable(1), of(t, `h(_1)`)}, api.ErrMany},
		{[]api.Term{variable(1), atom("a")}, []api.Term{variable(1), atom("b")}, api.ErrMany},
		{[]api.Term{variable(1), of(t, `h(_2)`)}, []api.Term{variable(2), variable(1)}, api.ErrMany},
		{[]api.Term{variable(1), of(t, `h(_1)`)}, []api.Term{atom("a"), atom("b")}, api.ErrUnlike},
	} {
		e := unify.New()
		great := compound("g", many(atom("a"), 499)...)
		checkUnify(t, e, variable(100), great, []int{100}, api.OK)
		a, b := compound("f", long...), compound("f", many(great, 4)...)
		if x.ahead != nil {
			a, b = compound("f", x.ahead[0], a), compound("f", x.ahead[1], b)
		}
		if x.behind != nil {
			a, b = compound("f", a, x.behind[0]), compound("f", b, x.behind[1])
		}
		checkUnify(t, e, a, b, nil, x.errno)
		checkUnify(t, e, b, a, nil, x.errno)
		checkBound(t, e)
	}
}

// TestLongLists is P8.1 of pairs that stand deep: lists of which the last elements and rests are the pairs of some hundred levels.
func TestLongLists(t *testing.T) {
	elements := row(499, func(i int) api.Term { return variable(i) })
	values := row(499, func(i int) api.Term { return integer(-i) })
	e := unify.New()
	numbers := make([]int, 499)
	for i := range numbers {
		numbers[i] = i
	}
	checkUnify(t, e, term.List(elements, variable(600)), term.List(values, atom("[]")), append(numbers, 600), api.OK)
	checkResolve(t, e, term.List(elements, variable(600)), term.List(values, atom("[]")))
	checkUnify(t, e, term.List(elements, atom("[]")), term.List(values[:498], atom("[]")), nil, api.ErrUnlike)
	e = unify.New()
	checkUnify(t, e, nested(variable(3), 999), nested(atom("a"), 999), []int{3}, api.OK)
	checkUnify(t, e, nested(variable(4), 998), nested(variable(4), 999), nil, api.ErrUnlike)
	checkUnify(t, e, nested(variable(4), 998), nested(variable(5), 999), []int{4}, api.OK)
	checkUnify(t, e, variable(5), nested(variable(4), 900), nil, api.ErrUnlike)
	checkResolve(t, e, variable(4), nested(variable(5), 1))
}

// TestTwins is P8.1 of terms whose pairs double with each level: 2^10 - 1 of nine levels, 2^11 - 1 of ten.
func TestTwins(t *testing.T) {
	for _, x := range []struct {
		levels int
		errno  api.Errno
	}{{1, api.OK}, {9, api.OK}, {10, api.ErrMany}, {11, api.ErrMany}, {60, api.ErrMany}} {
		e := unify.New()
		for _, first := range []int{0, 200} {
			doubled(t, e, first, x.levels)
		}
		bound := []int{200}
		if x.errno != api.OK {
			bound = nil
		}
		checkUnify(t, e, variable(x.levels), variable(200+x.levels), bound, x.errno)
		if e.Bound(200) != (x.errno == api.OK) || e.Bound(0) {
			t.Errorf("%d levels: Bound", x.levels)
		}
	}
}

// doubled binds so many variables behind the first one, each to a term that has the one ahead of it twice.
func doubled(t *testing.T, e *unify.Env, first, levels int) {
	t.Helper()
	for n := first + 1; n <= first+levels; n++ {
		checkUnify(t, e, variable(n), compound("f", variable(n-1), variable(n-1)), []int{n}, api.OK)
	}
}
