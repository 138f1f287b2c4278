package unify_test

import (
	"testing"

	"coney/api"
	"coney/unify"
	"coney/write"
)

// The bounds that P8.1 and P8.3 name, and the end of all calls: what is asked here takes a moment if it takes as many steps as it may, and hours if it takes more.

// TestDoubledSteps is P8.1 and P8.3 of variables that stand for terms of 2^1500 parts.
func TestDoubledSteps(t *testing.T) {
	ends("what doubles", func() {
		const top = 1500
		e := unify.New()
		doubled(t, e, 0, top)
		checkUnify(t, e, variable(top+1), compound("g", variable(top), variable(top), variable(top-1)), []int{top + 1}, api.OK)
		checkUnify(t, e, variable(0), compound("g", variable(top), variable(1)), nil, api.ErrUnlike)
		checkUnify(t, e, variable(0), variable(top+1), nil, api.ErrUnlike)
		checkUnify(t, e, variable(top), variable(top), nil, api.ErrMany)
		checkUnify(t, e, variable(top), variable(top-1), nil, api.ErrUnlike)
		checkUnify(t, e, compound("f", variable(top+2), atom("a")), compound("f", variable(top), atom("b")), nil, api.ErrUnlike)
		for _, most := range []int{0, 1, 1000, 1 << 20} {
			checkSize(t, e, variable(top), most, most+1)
			checkSize(t, e, compound("f", many(variable(top), 999)...), most, most+1)
		}
		checkUnify(t, e, variable(0), atom("a"), []int{0}, api.OK)
		x := e.Resolve(compound("g", variable(top), variable(top+1)))
		levels := 0
		for ; len(x.Args) > 0; x = x.Args[len(x.Args)-1] {
			levels++
		}
		if !same(x, atom("a")) || levels != top+1 {
			t.Errorf("%s, %d levels within all", text(x), levels)
		}
	})
}

// TestChainSteps is P8.1 and P8.3 of 200000 variables that were bound to one another, one behind the other, in different orders.
func TestChainSteps(t *testing.T) {
	const n = 200000
	for _, order := range []func(i int) (int, int){
		func(i int) (int, int) { return n - i, n - i - 1 },
		func(i int) (int, int) { return i, i + 1 },
		func(i int) (int, int) { return n - i - 1, n - i },
		func(i int) (int, int) { return (i*7919 + 1) % n, (i*7919 + 7920) % n },
	} {
		ends("a chain", func() {
			e := unify.New()
			for i := range n {
				a, b := order(i)
				if _, errno := e.Unify(variable(a), variable(b)); errno != api.OK {
					t.Fatalf("Unify of the variables %d and %d: %d", a, b, errno)
				}
			}
			x := compound("f", row(999, func(i int) api.Term { return variable(n - 1 - i) })...)
			y := compound("f", row(999, func(i int) api.Term { return variable(n/2 + i) })...)
			for range 200 {
				checkUnify(t, e, x, y, nil, api.OK)
				checkSize(t, e, x, 1000, 1000)
				checkUnify(t, e, x, compound("f", append(y.Args[:998:998], compound("f", variable(n/3)))...), nil, api.ErrUnlike)
			}
			checkUnify(t, e, x.Args[0], integer(7), []int{0}, api.OK)
			checkResolve(t, e, y, compound("f", many(integer(7), 999)...))
		})
	}
}

// TestDeepSteps is P8.1 to P8.3 of a term that stands 2^16 levels deep by what variables stand for.
func TestDeepSteps(t *testing.T) {
	ends("what is deep", func() {
		const n = 1 << 16
		e := unify.New()
		for i := range n {
			checkUnify(t, e, variable(i), compound("f", variable(i+1)), []int{i}, api.OK)
		}
		checkUnify(t, e, variable(n), compound("f", variable(0)), nil, api.ErrUnlike)
		checkUnify(t, e, variable(n+1), compound("f", variable(0)), []int{n + 1}, api.OK)
		checkSize(t, e, variable(0), n, n+1)
		checkSize(t, e, variable(0), n+1, n+1)
		checkSize(t, e, variable(0), 5, 6)
		checkUnify(t, e, variable(0), variable(1), nil, api.ErrMany)
		checkUnify(t, e, variable(n), atom("a"), []int{n}, api.OK)
		x := e.Resolve(variable(0))
		for range n {
			x = x.Args[0]
		}
		if !same(x, atom("a")) {
			t.Errorf("within all: %s", text(x))
		}
	})
}

// TestManySteps is P8.1 of many variables that are bound at once, each to a term that has all of 300 great ones within it.
func TestManySteps(t *testing.T) {
	ends("what is bound at once", func() {
		e := unify.New()
		for i := range 300 {
			great := compound("g", append(many(atom("a"), 998), variable(i+1))...)
			if !write.Good(great) {
				t.Fatal("a term that may not be")
			}
			checkUnify(t, e, variable(i), great, []int{i}, api.OK)
		}
		fresh := 1000
		for range 60 {
			numbers := make([]int, 499)
			for i := range numbers {
				numbers[i] = fresh
				fresh++
			}
			x := compound("f", row(499, func(i int) api.Term { return variable(numbers[i]) })...)
			y := compound("f", many(compound("h", variable(0)), 499)...)
			endless := compound("f", append(many(compound("h", variable(0)), 498), compound("h", x.Args[498]))...)
			checkUnify(t, e, x, endless, nil, api.ErrUnlike)
			checkUnify(t, e, x, y, numbers, api.OK)
		}
		checkUnify(t, e, variable(300), compound("h", variable(fresh-1)), nil, api.ErrUnlike)
	})
}

// TestSharedSteps is P8.1 of many variables that stand for one great term, all of them within another one.
func TestSharedSteps(t *testing.T) {
	ends("what is shared", func() {
		e := unify.New()
		checkUnify(t, e, variable(0), compound("g", many(variable(1), 999)...), []int{0}, api.OK)
		list := 1
		for n := 2; n < 3000; n += 2 {
			checkUnify(t, e, variable(n), variable(0), []int{n}, api.OK)
			checkUnify(t, e, variable(n+1), compound("h", variable(n), variable(list)), []int{n + 1}, api.OK)
			list = n + 1
		}
		checkUnify(t, e, variable(1), compound("f", variable(list)), nil, api.ErrUnlike)
		checkSize(t, e, variable(list), 1<<20, 1<<20+1)
	})
}
