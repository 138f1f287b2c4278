package term_test

import (
	"math/rand"
	"testing"

	"coney/api"
	"coney/term"
	"coney/write"
)

func checkVariant(t *testing.T, a, b api.Term, want bool) {
	t.Helper()
	if got := term.Variant(a, b); got != want {
		t.Errorf("Variant(%.200s, %.200s) = %v", write.Write(a), write.Write(b), got)
	}
	if got := term.Variant(b, a); got != want {
		t.Errorf("Variant(%.200s, %.200s) = %v, though turned about it is not", write.Write(b), write.Write(a), got)
	}
}

// TestVariant is P7.3, either way.
func TestVariant(t *testing.T) {
	for _, x := range []struct {
		a, b string
		want bool
	}{
		{`_0`, `_0`, true},
		{`_0`, `_9223372036854775807`, true},
		{`_0`, `0`, false},
		{`_0`, `a`, false},
		{`_0`, `f(_0)`, false},
		{`1`, `1`, true},
		{`1`, `-1`, false},
		{`1`, `'1'`, false},
		{`a`, `a`, true},
		{`a`, `b`, false},
		{`a`, `ab`, false},
		{`a`, `a(a)`, false},
		{`[]`, `'[]'`, true},
		{`f(_0,_1)`, `f(_0,_1)`, true},
		{`f(_0,_1)`, `f(_1,_0)`, true},
		{`f(_0,_1)`, `f(_7,_5)`, true},
		{`f(_0,_1)`, `f(_1,_2)`, true},
		{`f(_0,_1)`, `f(_0,_0)`, false},
		{`f(_0,_1)`, `f(_1,_1)`, false},
		{`f(_0,_1)`, `f(_2,_2)`, false},
		{`f(_0,_0)`, `f(_3,_3)`, true},
		{`f(_0,_1,_0)`, `f(_1,_0,_1)`, true},
		{`f(_0,_1,_0)`, `f(_1,_0,_0)`, false},
		{`f(_0,_1,_2)`, `f(_1,_2,_0)`, true},
		{`f(_0,_1,_2)`, `f(_1,_2,_1)`, false},
		{`f(_0,a)`, `f(a,_0)`, false},
		{`f(_0,a)`, `f(_1,a)`, true},
		{`f(_0,a)`, `f(_1,b)`, false},
		{`f(_0,a)`, `f(_1,_1)`, false},
		{`f(a,b)`, `f(b,a)`, false},
		{`f(a)`, `g(a)`, false},
		{`f(a)`, `f(a,a)`, false},
		{`f(a,a)`, `f(a,a,a)`, false},
		{`f(g(_0),_1)`, `f(g(_5),_4)`, true},
		{`f(g(_0),_1)`, `f(g(_5),_5)`, false},
		{`f(g(_0),_0)`, `f(g(_5),_5)`, true},
		{`f(g(_0),_0)`, `f(_5,g(_5))`, false},
		{`f(_0,g(_1,h(_0)))`, `f(_2,g(_3,h(_2)))`, true},
		{`f(_0,g(_1,h(_0)))`, `f(_2,g(_3,h(_3)))`, false},
		{`[_0,_1|_0]`, `[_1,_0|_1]`, true},
		{`[_0,_1|_0]`, `[_1,_0|_0]`, false},
		{`[_0]`, `[_0|_1]`, false},
		{`[a,b]`, `[a,b]`, true},
		{`[a,b]`, `[a,b,c]`, false},
	} {
		checkVariant(t, of(t, x.a), of(t, x.b), x.want)
	}
}

// inRow numbers variables by where they come first: variants are the same then.
func inRow(x api.Term, row map[int]int) api.Term {
	if x.Kind == api.Var {
		if _, ok := row[x.N]; !ok {
			row[x.N] = len(row)
		}
		return variable(row[x.N])
	}
	var args []api.Term
	for _, y := range x.Args {
		args = append(args, inRow(y, row))
	}
	x.Args = args
	return x
}

// TestVariantAll is P7.3 and P7.7: all pairs of short terms, and of terms of three Args; variants have one Size.
func TestVariantAll(t *testing.T) {
	l := short()
	for i := range 64 {
		l = append(l, compound("f", variable(i%4), compound("g", variable(i/4%4)), variable(i/16)))
	}
	alike := 0
	for _, a := range l {
		for _, b := range l {
			want := same(inRow(a, map[int]int{}), inRow(b, map[int]int{}))
			checkVariant(t, a, b, want)
			if want && !same(a, b) {
				alike++
			}
			if want && term.Size(a) != term.Size(b) {
				t.Errorf("variants of the Sizes %d, %d", term.Size(a), term.Size(b))
			}
		}
	}
	if alike < 500 {
		t.Errorf("%d variants that are not the same", alike)
	}
}

// TestVariantRandom is P7.3: a term and what it becomes when its variables are renamed, one to one, and two to one.
func TestVariantRandom(t *testing.T) {
	r := rand.New(rand.NewSource(73))
	for i := range 5000 {
		a := random(r, i%6)
		to := row(3, func(int) api.Term { return variable(r.Intn(3)) })
		b := term.Subst(a, to)
		checkVariant(t, a, b, same(inRow(a, map[int]int{}), inRow(b, map[int]int{})))
		checkVariant(t, a, term.Shift(a, r.Intn(5)), true)
	}
}

// TestVariantGreat is P7.3 of terms of MaxTokens parts: many variables, and such that stand deep.
func TestVariantGreat(t *testing.T) {
	const n = api.MaxTokens - 1
	one := compound("f", row(n, variable)...)
	other := compound("f", row(n, func(i int) api.Term { return variable(n - 1 - i) })...)
	checkVariant(t, one, other, true)
	other.Args[n-1] = variable(1)
	checkVariant(t, one, other, false)
	other.Args[n-1] = variable(n)
	checkVariant(t, one, other, true)
	other.Args[n-1] = integer(0)
	checkVariant(t, one, other, false)
	checkVariant(t, nested(variable(0), n), nested(variable(1), n), true)
	checkVariant(t, nested(variable(0), n), nested(atom("a"), n), false)
	checkVariant(t, nested(variable(0), n), nested(variable(0), n-1), false)
}
