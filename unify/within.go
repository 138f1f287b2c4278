package unify

import "coney/api"

// greatest is how many parts Size counts at most.
const greatest = 1 << 20

func (e *Env) Size(t api.Term, most int) int {
	most = min(max(most, 0), greatest)
	parts := 0
	left := [][]api.Term{{t}} // none of them empty
	for len(left) > 0 && parts <= most {
		parts++
		last := len(left) - 1
		x := e.standsFor(left[last][0])
		left[last] = left[last][1:]
		if len(left[last]) == 0 {
			left = left[:last]
		}
		if hasArgs(x) {
			left = append(left, x.Args)
		}
	}
	return parts
}

func hasArgs(t api.Term) bool { return t.Kind == api.Cmp && len(t.Args) > 0 }

// A place is where a list of Args lies. What a variable stands for lies there once, however often it stands in a term: so what goes through each place once ends, where what goes through each part would not.
type place struct {
	first *api.Term
	n     int
}

func placeOf(args []api.Term) place { return place{&args[0], len(args)} }

// A visit is of a list of Args, ahead of what is within them; or, if it isEnd, behind that.
type visit struct {
	args  []api.Term
	isEnd bool
}

// isEndless tells whether one of the variables, or of those within them, stands for a term that has it.
func (e *Env) isEndless(variables []int) bool {
	const open, done = 1, 2
	state := map[place]int{}
	var left []visit
	meet := func(t api.Term) {
		if t = e.standsFor(t); hasArgs(t) {
			left = append(left, visit{args: t.Args})
		}
	}
	for _, n := range variables {
		meet(e.top(n).stands)
	}
	for len(left) > 0 {
		v := left[len(left)-1]
		left = left[:len(left)-1]
		at := placeOf(v.args)
		switch {
		case v.isEnd:
			state[at] = done
		case state[at] == open:
			return true
		case state[at] != done:
			state[at] = open
			left = append(left, visit{v.args, true})
			for _, x := range v.args {
				meet(x)
			}
		}
	}
	return false
}
