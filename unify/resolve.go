package unify

import (
	"slices"

	"coney/api"
)

func (e *Env) Resolve(t api.Term) api.Term {
	told := []api.Term{t}
	r := resolving{e, map[place][]api.Term{}, [][]api.Term{told}}
	for len(r.left) > 0 {
		last := len(r.left) - 1
		args := r.left[last]
		r.left = r.left[:last]
		for i, x := range args {
			args[i] = r.begun(x)
		}
	}
	return told[0]
}

// A resolving is one Resolve on its way. Each list of Args is copied once, and what is told shares the copy.
type resolving struct {
	env    *Env
	copies map[place][]api.Term
	left   [][]api.Term // copies whose terms are still to be resolved
}

// begun tells what comes into a term's place. Its Args are resolved later, so that no term is too deep.
func (r *resolving) begun(t api.Term) api.Term {
	t = r.env.standsFor(t)
	if !hasArgs(t) {
		return t
	}
	at := placeOf(t.Args)
	args, ok := r.copies[at]
	if !ok {
		args = slices.Clone(t.Args)
		r.copies[at] = args
		r.left = append(r.left, args)
	}
	t.Args = args
	return t
}
