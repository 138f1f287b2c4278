package write_test

import (
	"reflect"
	"slices"
	"testing"

	"coney/api"
	"coney/write"
)

// TestUnchanged is R3: neither terms nor names are changed or kept, nor what lies behind their length read.
func TestUnchanged(t *testing.T) {
	terms := func() []api.Term {
		return []api.Term{variable(0), list(variable(1), variable(2)), atom("it's"), integer(-1), atom("\x00"), compound("f")}
	}
	known := func() []string { return []string{"X", "", "Z", "U", "V"} }
	args, names := terms(), known()
	x := compound("f", args[:4]...)
	for _, y := range []struct {
		names []string
		want  string
	}{
		{names[:0], `f(_0,[_1,_2],'it\'s',-1)`},
		{names[:1], `f(X,[_1,_2],'it\'s',-1)`},
		{names[:3], `f(X,[_1,Z],'it\'s',-1)`},
	} {
		for range 2 {
			if got := write.Named(x, y.names); got != y.want {
				t.Errorf("Named(.., %q) = %q, want %q", y.names, got, y.want)
			}
		}
	}
	if got := write.Write(compound("f", args[:4]...)); got != `f(_0,[_1,_2],'it\'s',-1)` {
		t.Errorf("Write = %q", got)
	}
	if !write.Good(x) || write.Good(compound("f", args[:5]...)) || write.Good(api.Term{Kind: api.Cmp, Name: "f", Args: args[:0]}) {
		t.Error("Good asks for what is behind the length, or not for what is ahead of it")
	}
	if !reflect.DeepEqual(args, terms()) || !slices.Equal(names, known()) {
		t.Errorf("the arguments became %v, %q", args, names)
	}
}

// TestOnceMore is R5: a term that is changed between two calls is written as it is then, and calls in between count for nothing.
func TestOnceMore(t *testing.T) {
	args := []api.Term{atom("a"), atom("[]")}
	names := []string{"X"}
	x := api.Term{Kind: api.Cmp, Name: ".", Args: args}
	first := write.Named(x, names)
	args[1], names[0] = variable(0), "Y"
	second := write.Named(x, names)
	args[0] = variable(-1)
	third := write.Named(x, names)
	args[0] = integer(3)
	if got := []string{first, second, third, write.Named(x, names), write.Write(x)}; !slices.Equal(got, []string{`[a]`, `[a|Y]`, ``, `[3|Y]`, `[3|_0]`}) {
		t.Errorf("%q", got)
	}
}
