package ops_test

import (
	"strings"
	"testing"

	"coney/ops"
)

// An infix is what Infix answers, a prefix what Prefix answers.
type infix struct {
	priority, ahead, behind int
	ok                      bool
}

type prefix struct {
	priority, argument int
	ok                 bool
}

// infixes and prefixes are the chapter's table, each priority reckoned by hand.
func infixes() map[string]infix {
	m := map[string]infix{}
	for _, row := range []struct {
		names                   string
		priority, ahead, behind int
	}{
		{`:-`, 1200, 1199, 1199},
		{`;`, 1100, 1099, 1100},
		{`->`, 1050, 1049, 1050},
		{`,`, 1000, 999, 1000},
		{`#<=>`, 760, 759, 759},
		{`= \= == \== @< @> @=< @>= is =:= =\= < > =< >= =.. #= #\= #< #> #=< #>= in`, 700, 699, 699},
		{`\/`, 550, 550, 549},
		{`..`, 450, 449, 449},
		{`+ -`, 500, 500, 499},
		{`* // rem mod div`, 400, 400, 399},
		{`^`, 200, 199, 200},
	} {
		for _, name := range strings.Fields(row.names) {
			m[name] = infix{row.priority, row.ahead, row.behind, true}
		}
	}
	return m
}

func prefixes() map[string]prefix {
	return map[string]prefix{
		`:-`: {1200, 1199, true},
		`\+`: {900, 900, true},
		`+`:  {200, 200, true},
		`-`:  {200, 200, true},
	}
}

// A table holds both calls against the chapter: of a name that it lacks they are to answer zeros and false.
type table struct {
	infixes  map[string]infix
	prefixes map[string]prefix
}

func (c table) check(t *testing.T, name string) {
	t.Helper()
	var in infix
	in.priority, in.ahead, in.behind, in.ok = ops.Infix(name)
	if want := c.infixes[name]; in != want {
		t.Errorf("Infix(%.20q) = %v; want %v", name, in, want)
	}
	var pre prefix
	pre.priority, pre.argument, pre.ok = ops.Prefix(name)
	if want := c.prefixes[name]; pre != want {
		t.Errorf("Prefix(%.20q) = %v; want %v", name, pre, want)
	}
}

func chapter() table {
	return table{infixes(), prefixes()}
}

// TestExamples is P4.1 and P4.2: the chapter's own rows.
func TestExamples(t *testing.T) {
	for _, x := range []struct {
		name string
		want infix
	}{
		{`+`, infix{500, 500, 499, true}},
		{`,`, infix{1000, 999, 1000, true}},
		{`a`, infix{}},
	} {
		var got infix
		got.priority, got.ahead, got.behind, got.ok = ops.Infix(x.name)
		if got != x.want {
			t.Errorf("Infix(%q) = %v; want %v", x.name, got, x.want)
		}
	}
	if p, m, ok := ops.Prefix(`-`); p != 200 || m != 200 || !ok {
		t.Errorf("Prefix(-) = %d, %d, %v", p, m, ok)
	}
	if p, m, ok := ops.Prefix(`:-`); p != 1200 || m != 1199 || !ok {
		t.Errorf("Prefix(:-) = %d, %d, %v", p, m, ok)
	}
}

// TestOperators is P4.1 and P4.2: every name of the table, asked of both calls, since most are of one kind alone.
func TestOperators(t *testing.T) {
	c := chapter()
	if len(c.infixes) != 38 || len(c.prefixes) != 4 {
		t.Fatalf("the chapter has 38 and 4 operators, the test %d and %d", len(c.infixes), len(c.prefixes))
	}
	for name := range c.infixes {
		c.check(t, name)
	}
	for name := range c.prefixes {
		c.check(t, name)
	}
}

// TestOthers is P4.1 and P4.2: names that are operators elsewhere, or look like one, are none here.
func TestOthers(t *testing.T) {
	c := chapter()
	for _, name := range []string{
		``, ` `, `a`, `foo`, `_`, `X`, `0`, `[]`, `{}`, `(`, `)`, `|`, `!`, `.`, `:`, `?`, `~`, `$`, `&`, `\`, `/`, `**`, `>>`, `<<`, `/\`,
		`?-`, `-->`, `*->`, `:=`, `=@=`, `#\`, `#/\`, `#\/`, `#==>`, `#<==`, `#\==`, `#==`, `=>`, `<=`, `<=>`, `==>`, `>=<`, `=>=`, `...`, `..=`, `++`, `--`, `/=`, `!=`,
		`IS`, `Is`, `iS`, `IN`, `In`, `MOD`, `xor`, `rdiv`, `ins`, `not`, `xfx`, `fy`, `dynamic`, `table`,
		`'+'`, `'is'`, `','`, `"+"`, "`+`", ` +`, `+ `, "+\n", "\t+", "+\x00", "\x00+", "\x00", "is\x00", `+ -`, `= \=`, `* //`, `\ +`,
		"\uff0b", "\u2212", "\u2264", "\xff", "+\xff", "é",
		strings.Repeat(`+`, 4096), strings.Repeat(`is`, 2048), `+` + strings.Repeat(` `, 4000), strings.Repeat("\x00", 5000),
	} {
		if c.infixes[name].ok || c.prefixes[name].ok {
			t.Fatalf("the test takes %q for no operator", name)
		}
		c.check(t, name)
	}
}

// TestNeighbours is P4.1 and P4.2: a name with one byte more, less or other is an operator just where the table has that too.
func TestNeighbours(t *testing.T) {
	c := chapter()
	for name := range c.infixes {
		near(name, func(s string) { c.check(t, s) })
	}
	for name := range c.prefixes {
		near(name, func(s string) { c.check(t, s) })
	}
}

// near gives each text that is one byte away from name.
func near(name string, give func(string)) {
	for at := range len(name) + 1 {
		for b := range 256 {
			give(name[:at] + string([]byte{byte(b)}) + name[at:])
		}
	}
	for at := range len(name) {
		give(name[:at] + name[at+1:])
		for b := range 256 {
			give(name[:at] + string([]byte{byte(b)}) + name[at+1:])
		}
	}
}

// TestShortTexts is P4.1 and P4.2: of all texts up to the longest name's length, of the bytes that names are made of, just the table's are operators.
func TestShortTexts(t *testing.T) {
	c := chapter()
	bytes, longest := "", 0
	for name := range c.infixes {
		longest = max(longest, len(name))
		for _, b := range name {
			if !strings.ContainsRune(bytes, b) {
				bytes += string(b)
			}
		}
	}
	texts := []string{""}
	for range longest {
		var longer []string
		for _, s := range texts {
			for _, b := range bytes {
				c.check(t, s+string(b))
				longer = append(longer, s+string(b))
			}
		}
		texts = longer
	}
}
