package term_test

import (
	"math"
	"math/rand"
	"slices"
	"sort"
	"strings"
	"testing"

	"coney/api"
	"coney/term"
	"coney/write"
)

// rising are terms each of which is above the one ahead of it.
func rising() []string {
	return []string{
		// variables by their numbers
		`_0`, `_1`, `_2`, `_9`, `_10`, `_1099511627776`, `_9223372036854775807`,
		// integers by size
		`-9223372036854775808`, `-9223372036854775807`, `-4294967296`, `-10`, `-9`, `-2`, `-1`, `0`, `1`, `2`, `9`, `10`, `4294967296`, `9223372036854775806`, `9223372036854775807`,
		// atoms byte by byte: one that begins another is below it
		`''`, `'\t'`, `'\n'`, `' '`, `'  '`, `!`, `'('`, `*`, `+`, `++`, `','`, `-`, `'0'`, `'10'`, `'2'`, `:-`, `;`, `=`, `'A'`, `'Z'`, `[]`, `'_'`, `a`, `'a b'`, `aA`, `aa`, `aaa`, `ab`, `b`, `f`, `z`, `{}`, `'|'`, `~`,
		// compound terms of one Arg, by Name, whatever that is an operator of
		`''(z)`, `+(z)`, `-(1)`, `'.'(_9)`, `'A'(z)`, `'[]'(a)`, `a(_0)`, `a(_1)`, `a(-1)`, `a(1)`, `a(a)`, `a(b)`, `a(a(_0))`, `a(a(a))`, `a(b(_0))`, `a([_0|_0])`, `a(a(_0,_0))`, `aa(_0)`, `ab(_0)`, `b(_0)`, `z(z)`, `'{}'(_0)`,
		// of two: Args from the first on
		`+(1,2)`, `-(1,1)`, `-(1,2)`, `-(2,1)`, `[_0|_1]`, `[_1|_0]`, `[-5]`, `[-5,a]`, `[a|_0]`, `[a]`, `[a|f(a)]`, `[a,a]`, `[a,a,a]`, `[a,b]`, `[b]`, `=(a,a)`, `a(a,a)`, `f(a,b)`, `f(b,a)`, `f(b,b)`, `f(g(a),_0)`, `f(g(b),_0)`, `z(a,a)`,
		// of more
		`''(a,a,a)`, `a(a,a,a)`, `b(_0,_0,_0)`, `b(a,a,a)`, `b(a,a,b)`, `b(a,b,a)`, `b(b,a,a)`, `b(f(_1),f(_0),f(_0))`, `a(_0,_0,_0,_0)`, `a(_0,_0,_0,_0,_0)`,
	}
}

func sign(n int) int {
	switch {
	case n < 0:
		return -1
	case n > 0:
		return 1
	}
	return 0
}

// TestCompare is P7.2, and P7.7: all of rising against all.
func TestCompare(t *testing.T) {
	l := ofAll(t, rising())
	if len(l) < 100 {
		t.Fatalf("%d terms", len(l))
	}
	for i, x := range l {
		for j, y := range l {
			if got, want := term.Compare(x, copied(y)), sign(i-j); got != want {
				t.Errorf("Compare(%s, %s) = %d, want %d", write.Write(x), write.Write(y), got, want)
			}
		}
	}
}

// TestCompareExamples is the chapter's.
func TestCompareExamples(t *testing.T) {
	for _, x := range []struct {
		a, b api.Term
		want int
	}{
		{compound("f", atom("a")), atom("g"), 1},
		{integer(9), atom("a"), -1},
		{variable(0), integer(-1), -1},
		{variable(0), variable(0), 0},
	} {
		if got := term.Compare(x.a, x.b); got != x.want {
			t.Errorf("Compare(%v, %v) = %d, want %d", x.a, x.b, got, x.want)
		}
	}
}

// key is a list of numbers that stands to others', from the first on, as the term to theirs: each Name ends with a number below all bytes.
func key(x api.Term) []int {
	k := []int{x.Kind}
	if x.Kind == api.Var || x.Kind == api.Int {
		return append(k, x.N)
	}
	if x.Kind == api.Cmp {
		k = append(k, len(x.Args))
	}
	for _, b := range []byte(x.Name) {
		k = append(k, int(b))
	}
	k = append(k, -1)
	for _, y := range x.Args {
		k = append(k, key(y)...)
	}
	return k
}

// TestCompareRandom is P7.2 and P7.7: all pairs of short terms, and of random ones, against their keys, whose order is a total one.
func TestCompareRandom(t *testing.T) {
	r := rand.New(rand.NewSource(72))
	deep := row(600, func(i int) api.Term { return random(r, i%6) })
	for _, l := range [][]api.Term{short(), deep} {
		for _, x := range l {
			for _, y := range l {
				if got, want := term.Compare(x, y), slices.Compare(key(x), key(y)); got != want {
					t.Fatalf("Compare(%s, %s) = %d, want %d", write.Write(x), write.Write(y), got, want)
				}
			}
		}
	}
}

// TestTotal is P7.7, by what a total order is.
func TestTotal(t *testing.T) {
	r := rand.New(rand.NewSource(77))
	l := row(150, func(i int) api.Term { return random(r, i%4) })
	for _, x := range l {
		for _, y := range l {
			d := term.Compare(x, y)
			if back := term.Compare(y, x); back != -d || (d == 0) != same(x, y) {
				t.Fatalf("%s, %s: %d, %d", write.Write(x), write.Write(y), d, back)
			}
			for _, z := range l {
				if d <= 0 && term.Compare(y, z) <= 0 && term.Compare(x, z) > 0 {
					t.Fatalf("%s, %s, %s", write.Write(x), write.Write(y), write.Write(z))
				}
			}
		}
	}
}

// TestCompareGreat is P7.2 of terms of MaxTokens parts that are unlike at their end alone, or deep within.
func TestCompareGreat(t *testing.T) {
	const n = api.MaxTokens
	for _, build := range []func(x api.Term) api.Term{
		func(x api.Term) api.Term { return compound("f", append(many(atom("a"), n-2), x)...) },
		func(x api.Term) api.Term { return nested(x, n-1) },
		func(x api.Term) api.Term { return term.List(many(atom("a"), 499), x) },
		func(x api.Term) api.Term { return compound("f", append([]api.Term{x}, many(atom("a"), n-2)...)...) },
	} {
		l := []api.Term{build(variable(math.MaxInt)), build(integer(math.MinInt)), build(integer(-1)), build(atom("")), build(atom("a")), build(atom("b"))}
		for i, x := range l {
			for j, y := range l {
				if got := term.Compare(x, copied(y)); got != sign(i-j) {
					t.Errorf("Compare of the great ones %d and %d = %d", i, j, got)
				}
			}
		}
	}
	long := strings.Repeat("a", api.MaxText)
	if term.Compare(atom(long), atom(long[1:])) != 1 || term.Compare(atom(long[1:]), atom(long)) != -1 || term.Compare(atom(long), atom(long)) != 0 {
		t.Error("long names")
	}
}

// TestSort is P7.6.
func TestSort(t *testing.T) {
	for _, x := range []struct{ l, want []string }{
		{nil, nil},
		{[]string{`c`, `a`, `b`, `a`}, []string{`a`, `b`, `c`}},
		{[]string{`a`}, []string{`a`}},
		{[]string{`a`, `a`}, []string{`a`}},
		{[]string{`f(_0)`, `f(_0)`, `f(_0)`, `f(_0)`}, []string{`f(_0)`}},
		{[]string{`_0`, `1`, `a`, `f(a)`}, []string{`_0`, `1`, `a`, `f(a)`}},
		{[]string{`f(a)`, `a`, `1`, `_0`}, []string{`_0`, `1`, `a`, `f(a)`}},
		{[]string{`f(a)`, `f(_1)`, `f(_0)`, `f(1)`, `f(_1)`}, []string{`f(_0)`, `f(_1)`, `f(1)`, `f(a)`}},
		{[]string{`3`, `-1`, `2`, `-1`, `3`, `0`}, []string{`-1`, `0`, `2`, `3`}},
		{[]string{`a`, `b`, `a`, `b`, `a`}, []string{`a`, `b`}},
		{[]string{`b(a)`, `a(a,a)`, `[]`, `[a]`, `b(a)`}, []string{`[]`, `b(a)`, `[a]`, `a(a,a)`}},
	} {
		if got, want := term.Sort(ofAll(t, x.l)), ofAll(t, x.want); !sameAll(got, want) {
			t.Errorf("Sort(%v) = %v, want %v", x.l, got, want)
		}
	}
	if got := term.Sort([]api.Term{}); len(got) != 0 {
		t.Errorf("Sort of none = %v", got)
	}
}

// TestSortLong is P7.6 of what rises, falls, and stands in a heap, each term once and more often.
func TestSortLong(t *testing.T) {
	want := ofAll(t, rising())
	falling := slices.Clone(want)
	slices.Reverse(falling)
	twice := slices.Concat(want, falling, want)
	for range 50 {
		rand.New(rand.NewSource(76)).Shuffle(len(twice), func(i, j int) { twice[i], twice[j] = twice[j], twice[i] })
		for _, l := range [][]api.Term{want, falling, twice, slices.Concat(falling, want)} {
			if got := term.Sort(l); !sameAll(got, want) {
				t.Fatalf("Sort = %v", got)
			}
		}
	}
	numbers := row(5000, func(i int) api.Term { return integer(i * 7919 % 3000) })
	if got := term.Sort(numbers); !sameAll(got, row(3000, integer)) {
		t.Errorf("%d of 3000 integers", len(got))
	}
}

// TestSortRandom is P7.6 against lists that are sorted by keys.
func TestSortRandom(t *testing.T) {
	r := rand.New(rand.NewSource(766))
	for i := range 2000 {
		l := row(i%30, func(int) api.Term { return random(r, i%4) })
		want := slices.Clone(l)
		sort.Slice(want, func(i, j int) bool { return slices.Compare(key(want[i]), key(want[j])) < 0 })
		want = slices.CompactFunc(want, same)
		if got := term.Sort(l); !sameAll(got, want) {
			t.Fatalf("Sort(%v) = %v, want %v", l, got, want)
		}
	}
}
