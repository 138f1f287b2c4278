package term_test

import (
	"math/rand"
	"strconv"
	"testing"

	"coney/api"
	"coney/read"
)

func variable(n int) api.Term { return api.Term{Kind: api.Var, N: n} }

func integer(n int) api.Term { return api.Term{Kind: api.Int, N: n} }

func atom(name string) api.Term { return api.Term{Kind: api.Atom, Name: name} }

func compound(name string, args ...api.Term) api.Term {
	return api.Term{Kind: api.Cmp, Name: name, Args: args}
}

// numbered gives variables that are named `_` and digits these as numbers.
func numbered(t api.Term, names []string) api.Term {
	if t.Kind == api.Var {
		if n, err := strconv.Atoi(names[t.N][1:]); err == nil {
			return variable(n)
		}
	}
	for i, x := range t.Args {
		t.Args[i] = numbered(x, names)
	}
	return t
}

// of is the term of a text as layer 6 writes it, so that `_7` is the variable 7.
func of(t testing.TB, text string) api.Term {
	t.Helper()
	s, place, e := read.One(text)
	if e != api.OK {
		t.Fatalf("One(%q) tells the error %d at %d", text, e, place)
	}
	return numbered(s.Term, s.Names)
}

func ofAll(t testing.TB, texts []string) []api.Term {
	t.Helper()
	var l []api.Term
	for _, text := range texts {
		l = append(l, of(t, text))
	}
	return l
}

// nested puts a term so many levels deep.
func nested(t api.Term, levels int) api.Term {
	for range levels {
		t = compound("f", t)
	}
	return t
}

// row makes so many terms.
func row(n int, each func(i int) api.Term) []api.Term {
	l := make([]api.Term, n)
	for i := range l {
		l[i] = each(i)
	}
	return l
}

// many makes so many terms, one like the other.
func many(t api.Term, n int) []api.Term {
	return row(n, func(int) api.Term { return t })
}

// leaves are few, so that random terms are often alike.
func leaves() []api.Term {
	return []api.Term{variable(0), variable(1), variable(2), integer(-1), integer(0), integer(1), atom("a"), atom("ab"), atom("b"), atom("[]")}
}

// random makes a term of at most so many levels.
func random(r *rand.Rand, levels int) api.Term {
	if l := leaves(); levels == 0 || r.Intn(4) == 0 {
		return l[r.Intn(len(l))]
	}
	args := row(1+r.Intn(3), func(int) api.Term { return random(r, levels-1) })
	names := []string{"a", "ab", "f", "."}
	return compound(names[r.Intn(len(names))], args...)
}

// short are all terms of a leaf, of a name and one leaf, of a name and two.
func short() []api.Term {
	l := leaves()
	for _, name := range []string{"a", "ab", "."} {
		for _, x := range leaves() {
			l = append(l, compound(name, x))
			for _, y := range leaves() {
				l = append(l, compound(name, x, y))
			}
		}
	}
	return l
}

// same holds all fields of all parts against each other; Args that are nil are like those that are empty.
func same(a, b api.Term) bool {
	if a.Kind != b.Kind || a.N != b.N || a.Name != b.Name || len(a.Args) != len(b.Args) {
		return false
	}
	for i := range a.Args {
		if !same(a.Args[i], b.Args[i]) {
			return false
		}
	}
	return true
}

func sameAll(a, b []api.Term) bool {
	return len(a) == len(b) && same(compound("l", a...), compound("l", b...))
}

// copied is a term that shares no memory with another one.
func copied(t api.Term) api.Term {
	var args []api.Term
	for _, x := range t.Args {
		args = append(args, copied(x))
	}
	t.Args = args
	return t
}
