package read_test

import (
	"math/rand"
	"reflect"
	"strconv"
	"strings"
	"testing"

	"coney/api"
	"coney/lex"
	"coney/ops"
	"coney/read"
)

// A maker makes terms, and their texts, by a fixed row of random numbers.
type maker struct {
	*rand.Rand
	names []string
}

func (m *maker) pick(l ...string) string { return l[m.Intn(len(l))] }

// blank is what may stand between tokens.
func (m *maker) blank() string {
	return m.pick(" ", " ", " ", "\n", "\t ", " /* ). */ ", " % ( '\n")
}

// perhaps is a blank, or nothing where two tokens are two without one.
func (m *maker) perhaps() string {
	if m.Intn(2) == 0 {
		return ""
	}
	return m.blank()
}

// operators are names that the chapter's table has as infix, prefix or both.
func (m *maker) operator() string {
	return m.pick(`:-`, `;`, `->`, `,`, `#<=>`, `=`, `is`, `#>=`, `\/`, `..`, `+`, `-`, `*`, `mod`, `^`, `\+`)
}

func (m *maker) name() string {
	if m.Intn(3) == 0 {
		return m.operator()
	}
	return m.pick(`a`, `b`, `foo`, `[]`, `{}`, `.`, `it's`, `X`, ``, `!`, `two words`, `1`, "\n", `|`, `)`)
}

// term makes a term of at most so many levels, and what is to be read for it: its text for a place of the priority most.
func (m *maker) term(levels, most int) (api.Term, string) {
	n := m.Intn(8)
	switch {
	case levels > 0 && n < 4:
		return m.operation(levels-1, most)
	case levels > 0 && n == 4:
		return m.call(levels - 1)
	case levels > 0 && n == 5:
		return m.list(levels - 1)
	case levels > 0 && n == 6:
		x, s := m.term(levels-1, 1200)
		return api.Term{Kind: api.Cmp, Name: "{}", Args: []api.Term{x}}, "{" + m.perhaps() + s + m.blank() + "}"
	}
	return m.single()
}

func (m *maker) single() (api.Term, string) {
	switch m.Intn(4) {
	case 0:
		return m.variable()
	case 1:
		n := []int{0, 1, -1, 42, -7, 1<<63 - 1, -1 << 63}[m.Intn(7)]
		digits := strings.TrimPrefix(strconv.Itoa(n), "-")
		sign := strings.TrimSuffix(strconv.Itoa(n), digits)
		return api.Term{Kind: api.Int, N: n}, sign + m.pick("", "", "0", "000") + digits
	}
	name := m.name()
	return api.Term{Kind: api.Atom, Name: name}, m.atom(name)
}

// atom is an atom's text as an operand; operators stand in brackets, so that they are none.
func (m *maker) atom(name string) string {
	_, _, _, infix := ops.Infix(name)
	_, _, prefix := ops.Prefix(name)
	switch {
	case (name == "[]" || name == "{}") && m.Intn(2) == 0:
		return name[:1] + m.perhaps() + name[1:]
	case infix || prefix:
		return "(" + m.perhaps() + m.quote(name) + m.perhaps() + ")"
	}
	return m.quote(name)
}

// quote is a name as an atom, perhaps in quotes that it does not need.
func (m *maker) quote(name string) string {
	if s := lex.Quote(name); s != name || m.Intn(4) > 0 {
		return s
	}
	return "'" + strings.ReplaceAll(strings.ReplaceAll(name, `\`, `\\`), "'", "''") + "'"
}

func (m *maker) variable() (api.Term, string) {
	name := m.pick(`_`, `X`, `Y`, `_z`, `Long_name1`)
	for i, x := range m.names {
		if x == name && name != "_" {
			return api.Term{Kind: api.Var, N: i}, name
		}
	}
	m.names = append(m.names, name)
	return api.Term{Kind: api.Var, N: len(m.names) - 1}, name
}

func (m *maker) row(levels, n int) ([]api.Term, string) {
	var l []api.Term
	var s []string
	for range n {
		x, text := m.term(levels, 999)
		l, s = append(l, x), append(s, text)
	}
	return l, m.perhaps() + strings.Join(s, m.blank()+","+m.perhaps()) + m.blank()
}

func (m *maker) call(levels int) (api.Term, string) {
	name := m.name()
	l, s := m.row(levels, 1+m.Intn(3))
	return api.Term{Kind: api.Cmp, Name: name, Args: l}, m.quote(name) + "(" + s + ")"
}

func (m *maker) list(levels int) (api.Term, string) {
	l, s := m.row(levels, 1+m.Intn(3))
	rest := api.Term{Kind: api.Atom, Name: "[]"}
	if m.Intn(2) == 0 {
		x, text := m.term(levels, 999)
		rest, s = x, s+"|"+m.perhaps()+text+m.blank()
	}
	for i := len(l) - 1; i >= 0; i-- {
		rest = api.Term{Kind: api.Cmp, Name: ".", Args: []api.Term{l[i], rest}}
	}
	return rest, "[" + s + "]"
}

// operation makes a term of an operator, in brackets where the place asks for a lower priority, and sometimes where it doesn't.
func (m *maker) operation(levels, most int) (api.Term, string) {
	name := m.operator()
	var x api.Term
	var s string
	p, ahead, behind, infix := ops.Infix(name)
	q, argument, prefix := ops.Prefix(name)
	if prefix && (!infix || m.Intn(2) == 0) {
		p = q
		a, text := m.term(levels, argument)
		if beginsInfix(text) {
			text = "(" + text + ")"
		}
		x, s = api.Term{Kind: api.Cmp, Name: name, Args: []api.Term{a}}, m.quote(name)+m.blank()+text
	} else {
		a, left := m.term(levels, ahead)
		b, right := m.term(levels, behind)
		sign := m.quote(name)
		if name == "," {
			sign = m.pick(`,`, `','`)
		}
		between := m.blank()
		if right[0] == '(' {
			between = m.perhaps()
		}
		x, s = api.Term{Kind: api.Cmp, Name: name, Args: []api.Term{a, b}}, left+m.blank()+sign+between+right
	}
	if p > most || m.Intn(8) == 0 {
		return x, "(" + m.perhaps() + s + m.blank() + ")"
	}
	return x, s
}

// beginsInfix tells whether a prefix operator ahead of a text is an atom, since an infix one comes.
func beginsInfix(s string) bool {
	tokens, _, _ := lex.Tokens(s)
	if len(tokens) == 0 || tokens[0].Kind != api.TAtom {
		return false
	}
	_, _, _, infix := ops.Infix(tokens[0].Text)
	_, _, prefix := ops.Prefix(tokens[0].Text)
	return infix && !prefix
}

// TestBack is P5.1 and P5.2: terms whose texts are written with operators, brackets, blanks and remarks of all sorts are read back.
func TestBack(t *testing.T) {
	m := &maker{Rand: rand.New(rand.NewSource(5))}
	most := 0
	for i := range 20000 {
		m.names = nil
		x, s := m.term(i%7, 1200)
		want := api.Sentence{Term: x, Names: m.names}
		most = max(most, len(s))
		l, place, e := read.Read(s + " .")
		if e != api.OK || place != 0 || len(l) != 1 || !reflect.DeepEqual(l[0], want) {
			t.Fatalf("Read(%q .) = %s, %d, %d; want %s", s, toldAll(l), place, e, told(want))
		}
		one, place, e := read.One(s)
		if e != api.OK || place != 0 || !reflect.DeepEqual(one, want) {
			t.Fatalf("One(%q) = %s, %d, %d; want %s", s, told(one), place, e, told(want))
		}
	}
	if most < api.MaxText/4 {
		t.Errorf("no text has more than %d bytes", most)
	}
}
