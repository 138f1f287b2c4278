package unify_test

import (
	"maps"
	"math/rand"
	"slices"
	"testing"

	"coney/api"
	"coney/unify"
)

// A plain environment is the chapter, word by word.
type plain struct {
	to    map[int]api.Term
	pairs int
	bound []int
}

func (p *plain) standsFor(t api.Term) api.Term {
	for t.Kind == api.Var {
		next, ok := p.to[t.N]
		if !ok {
			break
		}
		t = next
	}
	return t
}

func (p *plain) resolve(t api.Term) api.Term {
	t = p.standsFor(t)
	var args []api.Term
	for _, x := range t.Args {
		args = append(args, p.resolve(x))
	}
	t.Args = args
	return t
}

func has(t api.Term, n int) bool {
	return t.Kind == api.Var && t.N == n || slices.ContainsFunc(t.Args, func(x api.Term) bool { return has(x, n) })
}

func size(t api.Term) int {
	n := 1
	for _, x := range t.Args {
		n += size(x)
	}
	return n
}

func (p *plain) pair(a, b api.Term) api.Errno {
	p.pairs++
	if p.pairs > api.MaxPairs {
		return api.ErrMany
	}
	a, b = p.standsFor(a), p.standsFor(b)
	if a.Kind == api.Var && b.Kind == api.Var && a.N == b.N {
		return api.OK
	}
	if b.Kind == api.Var && (a.Kind != api.Var || a.N < b.N) {
		a, b = b, a
	}
	if a.Kind == api.Var {
		if has(p.resolve(b), a.N) {
			return api.ErrUnlike
		}
		p.to[a.N] = b
		p.bound = append(p.bound, a.N)
		return api.OK
	}
	if a.Kind != b.Kind || a.N != b.N || a.Name != b.Name || len(a.Args) != len(b.Args) {
		return api.ErrUnlike
	}
	for i := range a.Args {
		if e := p.pair(a.Args[i], b.Args[i]); e != api.OK {
			return e
		}
	}
	return api.OK
}

func (p *plain) unify(a, b api.Term) ([]int, api.Errno) {
	was := maps.Clone(p.to)
	p.pairs, p.bound = 0, nil
	if e := p.pair(a, b); e != api.OK {
		p.to = was
		return nil, e
	}
	return p.bound, api.OK
}

// checkPlain holds all that an environment tells of the variables up to 20 against the plain one.
func checkPlain(t *testing.T, e *unify.Env, p *plain) {
	t.Helper()
	checkBound(t, e, slices.Collect(maps.Keys(p.to))...)
	for n := range 20 {
		want := p.resolve(variable(n))
		checkResolve(t, e, variable(n), want)
		parts := size(want)
		for _, most := range []int{parts - 1, parts, parts + 1} {
			checkSize(t, e, variable(n), most, min(parts, most+1))
		}
	}
}

// TestRandom is P8.1 to P8.3 of random calls in one environment.
func TestRandom(t *testing.T) {
	r := rand.New(rand.NewSource(81))
	told := map[api.Errno]int{}
	for i := range 8000 {
		e, p := unify.New(), &plain{to: map[int]api.Term{}}
		for range 1 + i%6 {
			a, b := random(r, i%5), random(r, i%4)
			bound, errno := p.unify(a, b)
			told[errno]++
			checkUnify(t, e, a, b, bound, errno)
			checkPlain(t, e, p)
		}
	}
	if told[api.OK] < 5000 || told[api.ErrUnlike] < 5000 {
		t.Errorf("%v", told)
	}
}

// TestRandomVariables is P8.1 of variables that are bound to one another in all orders, and now and then to a term.
func TestRandomVariables(t *testing.T) {
	r := rand.New(rand.NewSource(82))
	for range 1500 {
		e, p := unify.New(), &plain{to: map[int]api.Term{}}
		for range 16 {
			l := row(6, func(int) api.Term { return variable(r.Intn(20)) })
			if r.Intn(3) == 0 {
				l[5] = random(r, 2)
			}
			a, b := compound("f", l[:3]...), compound("f", l[3:]...)
			bound, errno := p.unify(a, b)
			checkUnify(t, e, a, b, bound, errno)
			checkPlain(t, e, p)
		}
	}
}

// TestRandomMany is P8.1 of pairs about as many as MaxPairs, with what binds, fails and has itself among them.
func TestRandomMany(t *testing.T) {
	r := rand.New(rand.NewSource(83))
	told := map[api.Errno]int{}
	for i := range 600 {
		e, p := unify.New(), &plain{to: map[int]api.Term{}}
		great := compound("g", many(atom("c"), 185+r.Intn(30))...)
		for _, n := range []int{18, 19} {
			p.unify(variable(n), great)
			checkUnify(t, e, variable(n), copied(great), []int{n}, api.OK)
		}
		a, b := many(variable(18), 10), many(variable(19), 10)
		for range i % 6 {
			a, b = append(a, random(r, 2)), append(b, random(r, 2))
		}
		r.Shuffle(len(a), func(i, j int) { a[i], a[j], b[i], b[j] = a[j], a[i], b[j], b[i] })
		x, y := compound("f", a...), compound("f", b...)
		bound, errno := p.unify(x, y)
		told[errno]++
		checkUnify(t, e, x, y, bound, errno)
		checkPlain(t, e, p)
	}
	if told[api.OK] < 30 || told[api.ErrUnlike] < 30 || told[api.ErrMany] < 30 {
		t.Errorf("%v", told)
	}
}
