package unify

import (
	"slices"

	"coney/api"
)

// A cell is what is kept of a variable that was bound, or that another one was bound to. Variables that were bound to one another are a group; a way leads from each of them to one of them, the top, which need not be the least one. So ways stay short, in whatever order they were bound.
type cell struct {
	up     int      // the next variable on the way to the top; the top's own number
	size   int      // of a top: how many variables its group has
	stands api.Term // of a top: what all of them stand for
}

// top tells the cell of a variable's top.
func (e *Env) top(n int) cell {
	for {
		c, ok := e.cells[n]
		switch {
		case !ok:
			return cell{n, 1, api.Term{Kind: api.Var, N: n}}
		case c.up == n:
			return c
		}
		n = c.up
	}
}

func (e *Env) standsFor(t api.Term) api.Term {
	if t.Kind != api.Var {
		return t
	}
	return e.top(t.N).stands
}

// bind binds a variable that is free to what is none.
func (u *unifying) bind(n int, t api.Term) {
	c := u.env.top(n)
	u.put(c.up, cell{c.up, c.size, t})
	u.bound = append(u.bound, n)
}

// join binds the greater of two variables that are free to the other one. The group that has fewer variables comes under the other one's top: so a way is no longer than a group can be doubled.
func (u *unifying) join(a, b int) {
	if a == b {
		return
	}
	under, over := u.env.top(a), u.env.top(b)
	if under.size > over.size {
		under, over = over, under
	}
	u.put(under.up, cell{up: over.up})
	u.put(over.up, cell{over.up, under.size + over.size, api.Term{Kind: api.Var, N: min(a, b)}})
	u.bound = append(u.bound, max(a, b))
}

// A note is what a cell was ahead of a change; of the size 0, if there was none.
type note struct {
	n int
	cell
}

func (u *unifying) put(n int, c cell) {
	u.notes = append(u.notes, note{n, u.env.cells[n]})
	u.env.cells[n] = c
}

// takeBack goes from the last note to the first one, as a cell may have changed more than once.
func (u *unifying) takeBack() {
	for _, was := range slices.Backward(u.notes) {
		if was.size == 0 {
			delete(u.env.cells, was.n)
		} else {
			u.env.cells[was.n] = was.cell
		}
	}
}
