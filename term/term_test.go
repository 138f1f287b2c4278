package term_test

import (
	"math"
	"math/rand"
	"slices"
	"testing"

	"coney/api"
	"coney/term"
	"coney/write"
)

// checkParts holds Size, Depth and Vars of one term.
func checkParts(t *testing.T, name string, x api.Term, size, depth int, vars []int) {
	t.Helper()
	if !write.Good(x) {
		t.Fatalf("%s is no term that may be", name)
	}
	for range 2 {
		if got := term.Size(x); got != size {
			t.Errorf("Size of %s = %d, want %d", name, got, size)
		}
		if got := term.Depth(x); got != depth {
			t.Errorf("Depth of %s = %d, want %d", name, got, depth)
		}
		if got := term.Vars(x); !slices.Equal(got, vars) {
			t.Errorf("Vars of %.80s = %v, want %v", name, got, vars)
		}
	}
}

// TestParts is P7.1.
func TestParts(t *testing.T) {
	for _, x := range []struct {
		text        string
		size, depth int
		vars        []int
	}{
		{`_0`, 1, 1, []int{0}},
		{`_7`, 1, 1, []int{7}},
		{`_9223372036854775807`, 1, 1, []int{math.MaxInt}},
		{`0`, 1, 1, nil},
		{`-9223372036854775808`, 1, 1, nil},
		{`a`, 1, 1, nil},
		{`[]`, 1, 1, nil},
		{`'_0'`, 1, 1, nil},
		{`f(a)`, 2, 2, nil},
		{`f(_3)`, 2, 2, []int{3}},
		{`f(a,b,c)`, 4, 2, nil},
		{`f(_2,_1,_2)`, 4, 2, []int{2, 1}},
		{`f(_1,_1,_1)`, 4, 2, []int{1}},
		{`f(_0,_1,_2,_3)`, 5, 2, []int{0, 1, 2, 3}},
		{`f(_3,_2,_1,_0)`, 5, 2, []int{3, 2, 1, 0}},
		{`f(g(_5),_4)`, 4, 3, []int{5, 4}},
		{`f(_4,g(_5))`, 4, 3, []int{4, 5}},
		{`f(g(h(_5)),_5,g(_0))`, 7, 4, []int{5, 0}},
		{`f(a,g(b),h(i(c)))`, 7, 4, nil},
		{`f(h(i(c)),g(b),a)`, 7, 4, nil},
		{`f(a,h(i(c)),b)`, 6, 4, nil},
		{`f(f(f(f(a))))`, 5, 5, nil},
		{`f(1,-1,0,_9)`, 5, 2, []int{9}},
		{`[a]`, 3, 2, nil},
		{`[a|_1]`, 3, 2, []int{1}},
		{`[_1|_1]`, 3, 2, []int{1}},
		{`[a,b,c]`, 7, 4, nil},
		{`[_2,_1|_0]`, 5, 3, []int{2, 1, 0}},
		{`[[_2],[[_1]],_0]`, 13, 5, []int{2, 1, 0}},
		{`[[[[a]]]]`, 9, 5, nil},
		{`+(*(_1,2),-(_0))`, 6, 3, []int{1, 0}},
	} {
		checkParts(t, x.text, of(t, x.text), x.size, x.depth, x.vars)
	}
}

// TestBVars is the chapter's example: B's ahead.
func TestBVars(t *testing.T) {
	checkParts(t, "f(B, A, B)", compound("f", variable(1), variable(0), variable(1)), 4, 2, []int{1, 0})
	checkParts(t, "f(B, A, B), where B was read first", compound("f", variable(0), variable(1), variable(0)), 4, 2, []int{0, 1})
}

// TestGreatParts is P7.1 of terms of MaxTokens parts, of such that stand deep, and of such that stand in memory once and in the term often.
func TestGreatParts(t *testing.T) {
	const n = api.MaxTokens
	falling := func(i int) api.Term { return variable(5000 - i) }
	var down []int
	for i := range n - 1 {
		down = append(down, 5000-i)
	}
	checkParts(t, "many atoms", compound("f", many(atom("a"), n-1)...), n, 2, nil)
	checkParts(t, "one variable often", compound("f", many(variable(8), n-1)...), n, 2, []int{8})
	checkParts(t, "many variables", compound("f", row(n-1, falling)...), n, 2, down)
	checkParts(t, "a variable at the depth 1000", nested(variable(3), n-1), n, n, []int{3})
	checkParts(t, "a variable at the depth 501", compound("g", append(row(499, falling), nested(variable(0), 499))...), n, 501, append(slices.Clone(down[:499]), 0))
	checkParts(t, "a list", term.List(row(499, falling), integer(0)), 999, 500, down[:499])
	x := compound("f", variable(2), variable(1))
	for range 7 {
		x = compound("f", x, x)
	}
	checkParts(t, "511 parts, 9 in memory", x, 511, 9, []int{2, 1})
}

// naive is P7.1, word by word.
func naive(x api.Term) (int, int, []int) {
	if x.Kind == api.Var {
		return 1, 1, []int{x.N}
	}
	size, deepest := 1, 0
	var vars []int
	for _, y := range x.Args {
		s, d, v := naive(y)
		size, deepest = size+s, max(deepest, d)
		for _, n := range v {
			if !slices.Contains(vars, n) {
				vars = append(vars, n)
			}
		}
	}
	return size, deepest + 1, vars
}

// TestRandomParts is P7.1 of all short terms, and of random ones.
func TestRandomParts(t *testing.T) {
	r := rand.New(rand.NewSource(71))
	l := short()
	for i := range 5000 {
		l = append(l, random(r, i%6))
	}
	for _, x := range l {
		if !write.Good(x) {
			continue
		}
		size, depth, vars := naive(x)
		checkParts(t, write.Write(x), x, size, depth, vars)
	}
}
