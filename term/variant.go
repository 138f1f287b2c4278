package term

import (
	"slices"

	"coney/api"
)

func Variant(a, b api.Term) bool {
	r := renaming{map[int]int{}, map[int]int{}, mostParts}
	return r.fits(a, b)
}

// A renaming says what the variables of one term are in the other, and the other way; and how many pairs it still goes through.
type renaming struct {
	there, back map[int]int
	left        int
}

// fits tells whether two terms are the same by the renaming, and has it say what it takes for that.
func (r *renaming) fits(a, b api.Term) bool {
	if r.left == 0 || a.Kind != b.Kind {
		return false
	}
	r.left--
	switch a.Kind {
	case api.Var:
		return says(r.there, a.N, b.N) && says(r.back, b.N, a.N)
	case api.Int:
		return a.N == b.N
	case api.Atom:
		return a.Name == b.Name
	}
	return a.Name == b.Name && slices.EqualFunc(a.Args, b.Args, r.fits)
}

// says tells whether a becomes b; what became nothing so far becomes that.
func says(becomes map[int]int, a, b int) bool {
	n, ok := becomes[a]
	if !ok {
		becomes[a] = b
	}
	return !ok || n == b
}
