package term

import (
	"slices"

	"coney/api"
)

// mostCells is how many cells Unlist goes through, so that it ends; more than mostParts, as List makes more of them than a term that may be has.
const mostCells = 1 << 16

func List(l []api.Term, rest api.Term) api.Term {
	for _, t := range slices.Backward(l) {
		rest = api.Term{Kind: api.Cmp, Name: ".", Args: []api.Term{t, rest}}
	}
	return rest
}

func Unlist(t api.Term) ([]api.Term, api.Term) {
	var l []api.Term
	for isCell(t) && len(l) < mostCells {
		l = append(l, t.Args[0])
		t = t.Args[1]
	}
	return l, t
}

// isCell tells whether a term is a list's element and its rest.
func isCell(t api.Term) bool {
	return t.Kind == api.Cmp && t.Name == "." && len(t.Args) == 2
}
