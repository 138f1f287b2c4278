package write_test

import "coney/api"

func variable(n int) api.Term { return api.Term{Kind: api.Var, N: n} }

func integer(n int) api.Term { return api.Term{Kind: api.Int, N: n} }

func atom(name string) api.Term { return api.Term{Kind: api.Atom, Name: name} }

func compound(name string, args ...api.Term) api.Term {
	return api.Term{Kind: api.Cmp, Name: name, Args: args}
}

// ending makes a list with that rest.
func ending(rest api.Term, l ...api.Term) api.Term {
	for i := len(l) - 1; i >= 0; i-- {
		rest = compound(".", l[i], rest)
	}
	return rest
}

func list(l ...api.Term) api.Term { return ending(atom("[]"), l...) }

// nested puts a term so many levels deep.
func nested(t api.Term, levels int) api.Term {
	for range levels {
		t = compound("f", t)
	}
	return t
}

// many makes so many terms, one like the other.
func many(t api.Term, n int) []api.Term {
	l := make([]api.Term, n)
	for i := range l {
		l[i] = t
	}
	return l
}
