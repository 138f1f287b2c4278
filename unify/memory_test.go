package unify_test

import (
	"slices"
	"testing"

	"coney/api"
	"coney/unify"
)

// overwrite puts something else wherever a list reaches, its spare room too.
func overwrite(l []int) {
	l = l[:cap(l)]
	for i := range l {
		l[i] = -7
	}
}

// behind is a compound term of these Args, with something behind their list's length.
func behind(t *testing.T, texts ...string) api.Term {
	t.Helper()
	var l []api.Term
	for _, text := range texts {
		l = append(l, of(t, text))
	}
	l = append(l, many(atom("behind"), 8)...)
	return compound("f", l[:len(texts)]...)
}

// whole is a term's copy, with all that lies behind the length of its Args as Args.
func whole(x api.Term) api.Term {
	x.Args = x.Args[:cap(x.Args)]
	return copied(x)
}

// TestUnchanged is R3: no call changes what is handed in, nor what lies behind a list's length, whether it fails or not.
func TestUnchanged(t *testing.T) {
	l := []api.Term{
		behind(t, `_1`, `g(_0,h(_2))`, `[_3|_1]`), behind(t, `h(_2)`, `_5`, `[_4,a]`), behind(t, `_3`, `_4`, `_0`), behind(t, `b`, `g(_0,_1)`, `_6`), behind(t, `_6`, `f(_6)`, `_6`),
	}
	var want []api.Term
	for _, x := range l {
		want = append(want, whole(x))
	}
	for range 2 {
		for _, x := range l {
			e := unify.New()
			for _, y := range append(slices.Clone(l), l...) {
				e.Unify(x, y)
				e.Unify(y.Args[0], x.Args[2])
				e.Resolve(x)
				e.Resolve(y)
				e.Size(compound("g", x, y), 100)
			}
			for i, y := range l {
				if !same(whole(y), want[i]) {
					t.Fatalf("the term %d that was handed in became %v", i, whole(y))
				}
			}
		}
	}
}

// TestNumbers is R3: the numbers that Unify tells are new memory, and nobody else's.
func TestNumbers(t *testing.T) {
	e := unify.New()
	one, _ := e.Unify(of(t, `f(_0,_1,_2)`), of(t, `f(a,b,c)`))
	other, _ := e.Unify(of(t, `f(_3,_4,_5)`), of(t, `f(a,b,c)`))
	overwrite(other)
	if !slices.Equal(one, []int{0, 1, 2}) {
		t.Errorf("%v", one)
	}
	overwrite(one)
	checkBound(t, e, 0, 1, 2, 3, 4, 5)
	checkUnify(t, e, of(t, `g(_6,_5,_7)`), of(t, `g(_0,c,d)`), []int{6, 7}, api.OK)
	checkUnify(t, e, of(t, `g(_8,_5)`), of(t, `g(_0,d)`), nil, api.ErrUnlike)
	checkBound(t, e, 0, 1, 2, 3, 4, 5, 6, 7)
}

// TestToldStays is R3 and R5: what Resolve told stays what it was, whatever is bound later, and tells nothing into the environment.
func TestToldStays(t *testing.T) {
	e := unify.New()
	checkUnify(t, e, of(t, `_0`), of(t, `g(_1,h(_2))`), []int{0}, api.OK)
	x := of(t, `f(_0,_1)`)
	told := e.Resolve(x)
	checkUnify(t, e, of(t, `f(_1,_2)`), of(t, `f(a,_1)`), []int{1, 2}, api.OK)
	if !same(told, of(t, `f(g(_1,h(_2)),_1)`)) || !same(x, of(t, `f(_0,_1)`)) {
		t.Errorf("%v, %v", told, x)
	}
	checkResolve(t, e, told, of(t, `f(g(a,h(a)),a)`))
	checkResolve(t, unify.New(), told, told)
}

// TestShared is P8.1 to P8.3 of terms whose Args lie in the same memory, all of them or some.
func TestShared(t *testing.T) {
	l := []api.Term{of(t, `h(_1)`), of(t, `_0`), of(t, `h(_1)`), of(t, `b`)}
	x := compound("f", compound("g", l[:1]...), compound("h", l[:1]...), compound("g", l[:2]...), compound("g", l[1:2]...), compound("g", l...))
	e := unify.New()
	for range 2 {
		checkUnify(t, e, variable(0), x, nil, api.ErrUnlike)
		checkUnify(t, e, x.Args[0], x.Args[1], nil, api.ErrUnlike)
		checkUnify(t, e, x.Args[0], x.Args[2], nil, api.ErrUnlike)
		checkUnify(t, e, variable(1), compound("g", x.Args[0], x.Args[3]), nil, api.ErrUnlike)
	}
	checkUnify(t, e, variable(0), compound("f", x.Args[0], x.Args[1]), []int{0}, api.OK)
	checkUnify(t, e, variable(1), atom("a"), []int{1}, api.OK)
	zero := `f(g(h(a)),h(h(a)))`
	checkResolve(t, e, x, of(t, `f(g(h(a)),h(h(a)),g(h(a),`+zero+`),g(`+zero+`),g(h(a),`+zero+`,h(a),b))`))
	checkSize(t, e, x, 100, 38)
	again := compound("f", x.Args[:2]...)
	checkUnify(t, e, again, variable(0), nil, api.OK)
	checkUnify(t, e, again, compound("f", x.Args[1:3]...), nil, api.ErrUnlike)
}
