package write_test

import (
	"math"
	"math/rand"
	"reflect"
	"regexp"
	"strconv"
	"strings"
	"testing"

	"coney/api"
	"coney/read"
	"coney/write"
)

// leaves are terms without others in them, names of every sort among them.
func leaves() []api.Term {
	l := []api.Term{variable(0), variable(1), variable(7), variable(math.MaxInt), integer(0), integer(1), integer(-1), integer(math.MaxInt), integer(math.MinInt)}
	for _, name := range names() {
		l = append(l, atom(name))
	}
	return l
}

func names() []string {
	return []string{"a", "[]", "{}", ".", "-", "+", ":-", `\+`, "=", "is", "^", ",", ";", "!", "|", "it's", "\n", `\`, "", "X", "_", "1", "(", "%", "/*", ".."}
}

var escapes = strings.NewReplacer("\n", `\n`, "\t", `\t`, `\`, `\\`, "'", `\'`)

var bare = regexp.MustCompile(`^(?:[a-z]\w*|[-+*/\\^<>=:.?@#$&~]+|[!;])$`)

// quoted writes a name of no byte but those that may stand in quotes.
func quoted(name string) string {
	if bare.MatchString(name) && name != "." && !strings.HasPrefix(name, "/*") {
		return name
	}
	return "'" + escapes.Replace(name) + "'"
}

// text is the chapter's form, put together from the parts' texts; a list's from its rest's.
func text(t api.Term) string {
	switch {
	case t.Kind == api.Var:
		return "_" + strconv.Itoa(t.N)
	case t.Kind == api.Int:
		return strconv.Itoa(t.N)
	case t.Kind == api.Atom && (t.Name == "[]" || t.Name == "{}"):
		return t.Name
	case t.Kind == api.Atom:
		return quoted(t.Name)
	}
	var l []string
	for _, x := range t.Args {
		l = append(l, text(x))
	}
	if t.Name != "." || len(t.Args) != 2 {
		return quoted(t.Name) + "(" + strings.Join(l, ",") + ")"
	}
	rest := t.Args[1]
	switch {
	case rest.Kind == api.Cmp && rest.Name == "." && len(rest.Args) == 2:
		return "[" + l[0] + "," + l[1][1:]
	case rest.Kind == api.Atom && rest.Name == "[]":
		return "[" + l[0] + "]"
	}
	return "[" + l[0] + "|" + l[1] + "]"
}

// renumbered gives variables the numbers that read gives them.
func renumbered(t api.Term, of map[int]int) api.Term {
	if t.Kind == api.Var {
		if _, ok := of[t.N]; !ok {
			of[t.N] = len(of)
		}
		return variable(of[t.N])
	}
	var args []api.Term
	for _, x := range t.Args {
		args = append(args, renumbered(x, of))
	}
	t.Args = args
	return t
}

// checkBack holds a term's text against the form, and what is read of it against the term.
func checkBack(t *testing.T, x api.Term) string {
	t.Helper()
	s := write.Write(x)
	if want := text(x); s != want {
		t.Fatalf("Write(%v) = %q, want %q", x, s, want)
	}
	one, place, e := read.One(s)
	if want := renumbered(x, map[int]int{}); e != api.OK || place != 0 || !reflect.DeepEqual(one.Term, want) {
		t.Fatalf("One(%q) = %v, %d, %d; want %v", s, one.Term, place, e, want)
	}
	for i, name := range one.Names {
		if !strings.HasPrefix(name, "_") || name == "_" {
			t.Fatalf("One(%q) has the variable %d by the name %q", s, i, name)
		}
	}
	return s
}

// TestEveryShort is P6.2 and P6.3: all terms of a leaf alone, of a name and a leaf, of a name and two leaves, and those in lists.
func TestEveryShort(t *testing.T) {
	for _, x := range leaves() {
		checkBack(t, x)
		checkBack(t, list(x))
		for _, name := range names() {
			checkBack(t, compound(name, x))
			checkBack(t, list(compound(name, x), x))
			for _, y := range leaves() {
				checkBack(t, compound(name, x, y))
				checkBack(t, ending(compound(name, y, x), x))
			}
		}
	}
}

// random makes a term of at most so many levels.
func random(r *rand.Rand, levels int) api.Term {
	l := leaves()
	if levels == 0 || r.Intn(4) == 0 {
		return l[r.Intn(len(l))]
	}
	var args []api.Term
	for range 1 + r.Intn(3) {
		args = append(args, random(r, levels-1))
	}
	switch r.Intn(4) {
	case 0:
		return list(args...)
	case 1:
		return ending(l[r.Intn(len(l))], args...)
	}
	return compound(names()[r.Intn(len(names()))], args...)
}

// TestBack is P6.2 and P6.3 of random terms.
func TestBack(t *testing.T) {
	r := rand.New(rand.NewSource(6))
	most := 0
	for i := range 20000 {
		x := random(r, i%6)
		if write.Good(x) {
			most = max(most, len(checkBack(t, x)))
		}
	}
	if most < 500 {
		t.Errorf("no text has more than %d bytes", most)
	}
}

// TestBackEdges is P6.3: what is read back as long as it is not too deep, or too long, and how it isn't if it is.
func TestBackEdges(t *testing.T) {
	a := atom("a")
	for _, x := range []api.Term{
		nested(a, api.MaxDepth),
		list(many(a, 498)...),
		compound("f", many(a, 498)...),
		atom(strings.Repeat("a", api.MaxText-2)),
		atom(strings.Repeat("'", api.MaxText/2-2)),
	} {
		checkBack(t, x)
	}
	for _, x := range []struct {
		t api.Term
		e api.Errno
	}{
		{nested(a, api.MaxDepth+1), api.ErrDeep},
		{compound("f", many(a, 500)...), api.ErrMany},
		{atom(strings.Repeat("a", api.MaxText-1)), api.ErrLong},
	} {
		if _, _, e := read.One(write.Write(x.t)); e != x.e {
			t.Errorf("One(%.30q) tells the error %d, want %d", write.Write(x.t), e, x.e)
		}
	}
}

// TestSame is P6.3: terms that are not alike have texts that are not alike, but for what their Kind does not have.
func TestSame(t *testing.T) {
	seen := map[string]api.Term{}
	add := func(x api.Term) {
		s := write.Write(x)
		if y, ok := seen[s]; ok && !reflect.DeepEqual(x, y) {
			t.Errorf("Write tells %q of %v and %v", s, x, y)
		}
		seen[s] = x
	}
	for _, x := range leaves() {
		add(x)
		add(list(x))
		for _, name := range names() {
			add(compound(name, x))
			add(compound(name, compound(name, x)))
			for _, y := range leaves() {
				add(compound(name, x, y))
				add(compound(name, list(x, y)))
			}
		}
	}
}
