package term

import (
	"math"

	"coney/api"
)

// farthest is how far variables' numbers are shifted at most.
const farthest = 1 << 40

func Subst(t api.Term, l []api.Term) api.Term {
	return changed(t, func(v api.Term) api.Term {
		if v.N < 0 || v.N >= len(l) || l[v.N].Kind == 0 {
			return v
		}
		return l[v.N]
	})
}

// Shift stays at the greatest number there is, as one that wrapped round would be no variable's.
func Shift(t api.Term, by int) api.Term {
	by = min(max(by, 0), farthest)
	return changed(t, func(v api.Term) api.Term {
		v.N = min(v.N, math.MaxInt-by) + by
		return v
	})
}

// changed tells a term with what its variables become; a term of too many parts stays as it is.
func changed(t api.Term, becomes func(v api.Term) api.Term) api.Term {
	if Size(t) > mostParts {
		return t
	}
	var change func(x api.Term) api.Term
	change = func(x api.Term) api.Term {
		switch x.Kind {
		case api.Var:
			return becomes(x)
		case api.Cmp:
			args := make([]api.Term, len(x.Args))
			for i, y := range x.Args {
				args[i] = change(y)
			}
			x.Args = args
		}
		return x
	}
	return change(t)
}
