package term

import (
	"cmp"
	"slices"

	"coney/api"
)

func Compare(a, b api.Term) int {
	c := comparison{mostParts}
	return c.compare(a, b)
}

func Sort(l []api.Term) []api.Term {
	sorted := slices.Clone(l)
	slices.SortFunc(sorted, Compare)
	return slices.CompactFunc(sorted, func(a, b api.Term) bool { return Compare(a, b) == 0 })
}

// A comparison holds how many pairs it still goes through.
type comparison struct{ left int }

// compare answers something else than 0 when nothing is left, as that ends all of it.
func (c *comparison) compare(a, b api.Term) int {
	if c.left == 0 {
		return -1
	}
	c.left--
	// The kinds' numbers rise as the order does.
	if a.Kind != b.Kind {
		return cmp.Compare(a.Kind, b.Kind)
	}
	switch a.Kind {
	case api.Var, api.Int:
		return cmp.Compare(a.N, b.N)
	case api.Atom:
		return cmp.Compare(a.Name, b.Name)
	}
	if d := cmp.Compare(len(a.Args), len(b.Args)); d != 0 {
		return d
	}
	if d := cmp.Compare(a.Name, b.Name); d != 0 {
		return d
	}
	return slices.CompareFunc(a.Args, b.Args, c.compare)
}
