package unify_test

import (
	"math/rand"
	"slices"
	"strconv"
	"testing"
	"time"

	"coney/api"
	"coney/read"
	"coney/unify"
	"coney/write"
)

func variable(n int) api.Term { return api.Term{Kind: api.Var, N: n} }

func integer(n int) api.Term { return api.Term{Kind: api.Int, N: n} }

func atom(name string) api.Term { return api.Term{Kind: api.Atom, Name: name} }

func compound(name string, args ...api.Term) api.Term {
	return api.Term{Kind: api.Cmp, Name: name, Args: args}
}

// numbered gives variables that are named `_` and digits these as numbers.
func numbered(t api.Term, names []string) api.Term {
	if t.Kind == api.Var {
		if n, err := strconv.Atoi(names[t.N][1:]); err == nil {
			return variable(n)
		}
	}
	for i, x := range t.Args {
		t.Args[i] = numbered(x, names)
	}
	return t
}

// of is the term of a text as layer 6 writes it, so that `_7` is the variable 7.
func of(t testing.TB, text string) api.Term {
	t.Helper()
	s, place, e := read.One(text)
	if e != api.OK {
		t.Fatalf("One(%q) tells the error %d at %d", text, e, place)
	}
	return numbered(s.Term, s.Names)
}

// nested puts a term so many levels deep.
func nested(t api.Term, levels int) api.Term {
	for range levels {
		t = compound("f", t)
	}
	return t
}

// row makes so many terms.
func row(n int, each func(i int) api.Term) []api.Term {
	l := make([]api.Term, n)
	for i := range l {
		l[i] = each(i)
	}
	return l
}

// many makes so many terms, one like the other.
func many(t api.Term, n int) []api.Term {
	return row(n, func(int) api.Term { return t })
}

// leaves are few, so that random terms are often alike, and most are variables.
func leaves() []api.Term {
	return append(row(5, variable), variable(0), variable(1), integer(0), atom("a"), atom("b"))
}

// random makes a term of at most so many levels.
func random(r *rand.Rand, levels int) api.Term {
	if l := leaves(); levels == 0 || r.Intn(3) == 0 {
		return l[r.Intn(len(l))]
	}
	args := row(1+r.Intn(2), func(int) api.Term { return random(r, levels-1) })
	names := []string{"f", "f", "f", "g"}
	return compound(names[r.Intn(len(names))], args...)
}

// same holds all fields of all parts against each other; Args that are nil are like those that are empty.
func same(a, b api.Term) bool {
	if a.Kind != b.Kind || a.N != b.N || a.Name != b.Name || len(a.Args) != len(b.Args) {
		return false
	}
	for i := range a.Args {
		if !same(a.Args[i], b.Args[i]) {
			return false
		}
	}
	return true
}

// copied is a term that shares no memory with another one.
func copied(t api.Term) api.Term {
	var args []api.Term
	for _, x := range t.Args {
		args = append(args, copied(x))
	}
	t.Args = args
	return t
}

// ends makes a call that is to end soon; one that does not would else hold up all tests for long.
func ends(what string, call func()) {
	defer time.AfterFunc(2*time.Minute, func() { panic(what + " does not end") }).Stop()
	call()
}

// text is a term's, for messages.
func text(t api.Term) string {
	if !write.Good(t) {
		return "(a term that may not be)"
	}
	s := write.Write(t)
	return s[:min(len(s), 200)]
}

func checkUnify(t *testing.T, e *unify.Env, a, b api.Term, bound []int, errno api.Errno) {
	t.Helper()
	l, got := e.Unify(a, b)
	if !slices.Equal(l, bound) || got != errno {
		t.Fatalf("Unify(%s, %s) = %v, %d, want %v, %d", text(a), text(b), l, got, bound, errno)
	}
}

func checkResolve(t *testing.T, e *unify.Env, x, want api.Term) {
	t.Helper()
	if got := e.Resolve(x); !same(got, want) {
		t.Fatalf("Resolve(%s) = %s, want %s", text(x), text(got), text(want))
	}
}

// checkBound holds which of the variables up to 20 are bound, and that none is that no term can have.
func checkBound(t *testing.T, e *unify.Env, bound ...int) {
	t.Helper()
	for n := -3; n <= 20; n++ {
		if got := e.Bound(n); got != slices.Contains(bound, n) {
			t.Fatalf("Bound(%d) = %v, want %v", n, got, bound)
		}
	}
}
