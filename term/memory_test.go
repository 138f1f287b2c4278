package term_test

import (
	"slices"
	"testing"

	"coney/api"
	"coney/term"
)

// behind is a list with something behind its length.
func behind(t *testing.T, texts ...string) []api.Term {
	t.Helper()
	l := append(ofAll(t, texts), many(atom("behind"), 8)...)
	return l[:len(texts)]
}

// overwrite puts something else wherever a list reaches, its spare room too.
func overwrite[T any](l []T, x T) {
	l = l[:cap(l)]
	for i := range l {
		l[i] = x
	}
}

// TestUnchanged is R3: no call changes what is handed in, nor what lies behind a list's length, also where the answer is written over.
func TestUnchanged(t *testing.T) {
	texts := []string{`f(_1,[_0,b],g(_1))`, `[_2,a|_0]`, `f(_1,[_0,b],g(_1))`, `_0`, `c`, `-1`, `a`}
	l := behind(t, texts...)
	whole := slices.Clone(l[:cap(l)])
	for i := range whole {
		whole[i] = copied(whole[i])
	}
	mark := atom("over")
	for range 2 {
		for _, x := range l {
			term.Size(x)
			term.Depth(x)
			overwrite(term.Vars(x), -7)
			term.Shift(x, 5)
			term.Subst(x, l)
			elements, _ := term.Unlist(x)
			overwrite(elements, mark)
			overwrite(term.Sort(l), mark)
			overwrite(term.Sort(l[:1]), mark)
			overwrite(term.Sort(l[:0]), mark)
			list := term.List(l, x)
			overwrite(list.Args, mark)
			for _, y := range l {
				term.Compare(x, y)
				term.Variant(x, y)
			}
		}
		if !sameAll(l[:cap(l)], whole) {
			t.Fatalf("what was handed in became %v", l[:cap(l)])
		}
	}
}

// TestNew is R3: the parts that a call makes are new, so that what is handed in is not theirs.
func TestNew(t *testing.T) {
	x := of(t, `f(_1,g(_0,a),[_1])`)
	l := ofAll(t, []string{`h(_5)`, `b`})
	for _, build := range []func() api.Term{
		func() api.Term { return term.Subst(x, l[1:]) },
		func() api.Term { return term.Subst(x, nil) },
		func() api.Term { return term.Shift(x, 0) },
		func() api.Term { return term.Shift(x, 1) },
	} {
		got := build()
		overwrite(got.Args[1].Args, atom("over"))
		overwrite(got.Args[2].Args, atom("over"))
		overwrite(got.Args, atom("over"))
		if !same(x, of(t, `f(_1,g(_0,a),[_1])`)) {
			t.Fatalf("the term became %v", x)
		}
	}
}

// TestNotKept is R3 and R5: lists that are changed behind a call change no answer of it, and each call goes by what it is handed.
func TestNotKept(t *testing.T) {
	l := ofAll(t, []string{`b`, `a`})
	subst, list, sorted := term.Subst(of(t, `f(_0,_1)`), l), term.List(l, l[0]), term.Sort(l)
	overwrite(l, atom("over"))
	if !same(subst, of(t, `f(b,a)`)) || !same(list, of(t, `[b,a|b]`)) || !sameAll(sorted, ofAll(t, []string{`a`, `b`})) {
		t.Errorf("%v, %v, %v", subst, list, sorted)
	}
	if got := term.Subst(of(t, `f(_0,_1)`), l); !same(got, of(t, `f(over,over)`)) {
		t.Errorf("Subst of the list as it became: %v", got)
	}
	x := of(t, `f(_3,_1)`)
	vars := term.Vars(x)
	x.Args[0] = variable(1)
	if again := term.Vars(x); !slices.Equal(vars, []int{3, 1}) || !slices.Equal(again, []int{1}) {
		t.Errorf("%v, %v", vars, again)
	}
}

// TestApart is R3: answers of two calls share nothing, spare room neither.
func TestApart(t *testing.T) {
	x, l := of(t, `[_2,_1|_0]`), behind(t, `b`, `a`, `b`)
	vars, sorted := term.Vars(x), term.Sort(l)
	elements, rest := term.Unlist(x)
	overwrite(term.Vars(x), -7)
	overwrite(term.Sort(l), atom("over"))
	other, _ := term.Unlist(x)
	overwrite(other, atom("over"))
	if !slices.Equal(vars, []int{2, 1, 0}) || !sameAll(sorted, ofAll(t, []string{`a`, `b`})) || !sameAll(elements, []api.Term{variable(2), variable(1)}) || !same(rest, variable(0)) {
		t.Errorf("%v, %v, %v, %v", vars, sorted, elements, rest)
	}
}
