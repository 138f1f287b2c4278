package read

import (
	"slices"
	"strings"

	"coney/api"
	"coney/num"
	"coney/ops"
)

// The priorities of a sentence's term, and of what stands in brackets; of an argument or element, which a `,` ends.
const (
	whole = 1200
	part  = 999
)

// A taker takes an operand of a term: a term of at most that priority, which stands within it.
type taker func(most int) api.Term

// term takes a term of at most the priority most, that stands within depth others.
func (r *reader) term(most, depth int) api.Term {
	if depth > api.MaxDepth {
		panic(r.here(api.ErrDeep))
	}
	within := func(most int) api.Term { return r.term(most, depth+1) }
	t, priority := r.operand(most, within)
	for {
		k := r.next()
		p, ahead, behind, ok := infix(k)
		if !ok || p > most || ahead < priority {
			return t
		}
		r.at++
		t, priority = compound(k.Text, t, within(behind)), p
	}
}

func infix(k api.Token) (int, int, int, bool) {
	if k.Kind != api.TAtom && !isMark(k, ",") {
		return 0, 0, 0, false
	}
	return ops.Infix(k.Text)
}

// operand takes what a term begins with, and tells its priority.
func (r *reader) operand(most int, within taker) (api.Term, int) {
	switch k := r.next(); k.Kind {
	case api.TAtom:
		return r.named(most, within)
	case api.TVar:
		return r.variable(), 0
	case api.TInt:
		return r.integer(""), 0
	case api.TOpen:
		r.at++
		return r.bracketed(")", within), 0
	}
	return r.marked(within), 0
}

// named takes what begins with an atom.
func (r *reader) named(most int, within taker) (api.Term, int) {
	k := r.next()
	r.at++
	behind := r.next()
	switch {
	case behind.Kind == api.TOpen:
		r.at++
		args := r.row(within)
		r.expect(")")
		return compound(k.Text, args...), 0
	case k.Text == "-" && behind.Kind == api.TInt && behind.From == k.To:
		return r.integer("-"), 0
	}
	if p, m, ok := ops.Prefix(k.Text); ok && p <= most && mayBegin(behind) {
		return compound(k.Text, within(m)), p
	}
	return atom(k.Text), 0
}

// mayBegin tells whether a token may begin what a prefix operator stands ahead of; if not, that is an atom like others.
func mayBegin(k api.Token) bool {
	switch k.Kind {
	case api.TVar, api.TInt:
		return true
	case api.TMark:
		return k.Text == "(" || k.Text == "[" || k.Text == "{"
	case api.TAtom:
		_, _, _, between := ops.Infix(k.Text)
		_, _, ahead := ops.Prefix(k.Text)
		return ahead || !between
	}
	return false
}

// variable looks a name up in those of the sentence; that of `_` stands there too, but counts for nothing.
func (r *reader) variable() api.Term {
	name := r.next().Text
	r.at++
	n := slices.Index(r.names, name)
	if n < 0 || name == "_" {
		n = len(r.names)
		r.names = append(r.names, name)
	}
	return api.Term{Kind: api.Var, N: n}
}

// integer takes noughts ahead away, which no number's text has.
func (r *reader) integer(sign string) api.Term {
	digits := strings.TrimLeft(r.next().Text, "0")
	n := 0
	if digits != "" {
		var e api.Errno
		n, e = num.Parse(sign + digits)
		if e != api.OK {
			panic(r.here(api.ErrBig))
		}
	}
	r.at++
	return api.Term{Kind: api.Int, N: n}
}

// marked takes what begins with a mark.
func (r *reader) marked(within taker) api.Term {
	switch {
	case r.passes("("):
		return r.bracketed(")", within)
	case r.passes("["):
		return r.list(within)
	case r.passes("{"):
		if r.passes("}") {
			return atom("{}")
		}
		return compound("{}", r.bracketed("}", within))
	}
	panic(r.here(api.ErrSyntax))
}

// bracketed takes a term, and the bracket behind it.
func (r *reader) bracketed(end string, within taker) api.Term {
	t := within(whole)
	r.expect(end)
	return t
}

// list takes what is behind a list's first bracket.
func (r *reader) list(within taker) api.Term {
	rest := atom("[]")
	if r.passes("]") {
		return rest
	}
	elements := r.row(within)
	if r.passes("|") {
		rest = within(part)
	}
	r.expect("]")
	for _, t := range slices.Backward(elements) {
		rest = compound(".", t, rest)
	}
	return rest
}

// row takes arguments, or elements: one at least.
func (r *reader) row(within taker) []api.Term {
	l := []api.Term{within(part)}
	for r.passes(",") {
		l = append(l, within(part))
	}
	return l
}

func atom(name string) api.Term {
	return api.Term{Kind: api.Atom, Name: name}
}

func compound(name string, args ...api.Term) api.Term {
	return api.Term{Kind: api.Cmp, Name: name, Args: args}
}
