package write

import (
	"coney/api"
	"coney/lex"
)

// Good goes no further than the first part that is one too many, so that it ends of a term that has itself, too.
func Good(t api.Term) bool {
	parts := 0
	var good func(x api.Term) bool
	good = func(x api.Term) bool {
		parts++
		if parts > api.MaxTokens || !isPart(x) {
			return false
		}
		if x.Kind == api.Cmp {
			for _, y := range x.Args {
				if !good(y) {
					return false
				}
			}
		}
		return true
	}
	return good(t)
}

// isPart tells whether a part may be written, whatever its Args are.
func isPart(t api.Term) bool {
	switch t.Kind {
	case api.Var:
		return t.N >= 0
	case api.Int:
		return true
	case api.Atom:
		return lex.Quote(t.Name) != ""
	case api.Cmp:
		return len(t.Args) > 0 && lex.Quote(t.Name) != ""
	}
	return false
}
