package read_test

import (
	"regexp"
	"strconv"
	"strings"
	"testing"

	"coney/api"
	"coney/read"
)

var plain = regexp.MustCompile(`^(?:[a-z][a-zA-Z0-9_]*|[-+*/\\^<>=:.?@#$&~]+|\[\]|\{\}|[,;!])$`)

// show tells a term by names and brackets; a name stands as it is where it can't be mistaken.
func show(t api.Term) string {
	name := t.Name
	if !plain.MatchString(name) {
		name = strconv.Quote(name)
	}
	switch {
	case t.Kind == api.Var && t.Name == "" && t.Args == nil:
		return "_" + strconv.Itoa(t.N)
	case t.Kind == api.Int && t.Name == "" && t.Args == nil:
		return strconv.Itoa(t.N)
	case t.Kind == api.Atom && t.N == 0 && t.Args == nil:
		return name
	case t.Kind == api.Cmp && t.N == 0 && len(t.Args) > 0:
		return name + "(" + joined(t.Args, show) + ")"
	}
	return "no term of the kind " + strconv.Itoa(t.Kind)
}

func joined[E any](l []E, each func(E) string) string {
	var out []string
	for _, x := range l {
		out = append(out, each(x))
	}
	return strings.Join(out, ",")
}

// told is a sentence: its term, and behind that its variables' names, if it has some.
func told(x api.Sentence) string {
	if len(x.Names) == 0 {
		return show(x.Term)
	}
	return show(x.Term) + " " + strings.Join(x.Names, " ")
}

func toldAll(l []api.Sentence) string {
	var out []string
	for _, x := range l {
		out = append(out, told(x))
	}
	return strings.Join(out, "; ")
}

// brief is a text in quotes, a long one without its middle.
func brief(s string) string {
	if len(s) < 100 {
		return strconv.Quote(s)
	}
	return strconv.Quote(s[:30]) + ".." + strconv.Quote(s[len(s)-30:])
}

type good struct{ s, want string }

func checkGood(t *testing.T, rows []good) {
	t.Helper()
	for _, x := range rows {
		l, place, e := read.Read(x.s)
		if got := toldAll(l); got != x.want || place != 0 || e != api.OK {
			t.Errorf("Read(%s) = %s, %d, %d; want %s", brief(x.s), got, place, e, x.want)
		}
	}
}

// checkTerms gives each text an end.
func checkTerms(t *testing.T, rows []good) {
	t.Helper()
	for i := range rows {
		rows[i].s += " ."
	}
	checkGood(t, rows)
}

type bad struct {
	s     string
	place int
	e     api.Errno
}

func checkBad(t *testing.T, rows []bad) {
	t.Helper()
	for _, x := range rows {
		l, place, e := read.Read(x.s)
		if l != nil || place != x.place || e != x.e {
			t.Errorf("Read(%s) = %s, %d, %d; want none, %d, %d", brief(x.s), toldAll(l), place, e, x.place, x.e)
		}
	}
}

// TestExamples is the chapter's own rows.
func TestExamples(t *testing.T) {
	checkGood(t, []good{{`a:-b,c.`, `:-(a,,(b,c))`}})
	checkTerms(t, []good{
		{`1-2-3`, `-(-(1,2),3)`},
		{`2^3^4`, `^(2,^(3,4))`},
		{`- 1`, `-(1)`},
		{`-1`, `-1`},
		{`a- -1`, `-(a,-1)`},
		{`[a,b|T]`, `.(a,.(b,_0)) T`},
		{`- (1)`, `-(1)`},
		{`-(1)`, `-(1)`},
		{`f(:-, -)`, `f(:-,-)`},
	})
}

// TestSentences is P5.1: a text of several sentences, and of none.
func TestSentences(t *testing.T) {
	checkGood(t, []good{
		{``, ``},
		{" \n% a.\n/* b. */", ``},
		{`a.`, `a`},
		{`a.%`, `a`},
		{"a.\nb. c.", `a; b; c`},
		{`a.%b.`, `a`},
		{"p(X) :- q(X,Y). p(Y).\np(_).", `:-(p(_0),q(_0,_1)) X Y; p(_0) Y; p(_0) _`},
		{"'.'. '. '.", `.; ". "`},
	})
	checkBad(t, []bad{
		{`.`, 0, api.ErrSyntax},
		{`a. .`, 3, api.ErrSyntax},
		{`a. b`, 4, api.ErrSyntax},
		{`a. b c.`, 5, api.ErrSyntax},
		{`a. b. )`, 6, api.ErrSyntax},
		{`a b. c)`, 2, api.ErrSyntax},
		{`a.b.`, 1, api.ErrSyntax},
		{`a... b.`, 1, api.ErrSyntax},
	})
}

// TestOperands is P5.1: what a term begins with.
func TestOperands(t *testing.T) {
	checkTerms(t, []good{
		{`a`, `a`},
		{`'it''s'`, `"it's"`},
		{`''`, `""`},
		{`!`, `!`},
		{`'X'`, `"X"`},
		{`'1'`, `"1"`},
		{`(a)`, `a`},
		{`((a))`, `a`},
		{`( a )`, `a`},
		{`(a:-b)`, `:-(a,b)`},
		{`f(a)`, `f(a)`},
		{`f( a , b )`, `f(a,b)`},
		{`f(a,b,c,d,e)`, `f(a,b,c,d,e)`},
		{`f((a))`, `f(a)`},
		{`f((a,b))`, `f(,(a,b))`},
		{`f((a,b),c)`, `f(,(a,b),c)`},
		{`f((a:-b))`, `f(:-(a,b))`},
		{`f(a=b,\+c)`, `f(=(a,b),\+(c))`},
		{`f(a#<=>b)`, `f(#<=>(a,b))`},
		{`'a b'(c)`, `"a b"(c)`},
		{`''(c)`, `""(c)`},
		{`!(a)`, `!(a)`},
		{`;(a)`, `;(a)`},
		{`+(a,b,c)`, `+(a,b,c)`},
		{`=(a)`, `=(a)`},
		{`is(a,b)`, `is(a,b)`},
		{`:-(a)`, `:-(a)`},
		{`\+(a,b)`, `\+(a,b)`},
		{`-(a)`, `-(a)`},
		{`-(a)^b`, `^(-(a),b)`},
		{`-(1)`, `-(1)`},
		{`-(-(1))`, `-(-(1))`},
		{`','(a,b)`, `,(a,b)`},
		{`','`, `,`},
		{`'.'`, `.`},
		{`'.'(a,b)`, `.(a,b)`},
		{`'[]'`, `[]`},
		{`'[]'(a)`, `[](a)`},
		{`'{}'(a)`, `{}(a)`},
		{`f(g(h(i)),j(k))`, `f(g(h(i)),j(k))`},
	})
	checkBad(t, []bad{
		{`f().`, 2, api.ErrSyntax},
		{`f(a,).`, 4, api.ErrSyntax},
		{`f(,a).`, 2, api.ErrSyntax},
		{`f(a,,b).`, 4, api.ErrSyntax},
		{`f(a b).`, 4, api.ErrSyntax},
		{`f(a|b).`, 3, api.ErrSyntax},
		{`f(a].`, 3, api.ErrSyntax},
		{`f(a. `, 3, api.ErrSyntax},
		{`f(a ')'.`, 4, api.ErrSyntax},
		{`f(a ',' b).`, 4, api.ErrSyntax},
		{`f(a:-b).`, 3, api.ErrSyntax},
		{`f(a;b).`, 3, api.ErrSyntax},
		{`f(a->b).`, 3, api.ErrSyntax},
		{`f (a).`, 2, api.ErrSyntax},
		{`X(a).`, 1, api.ErrSyntax},
		{`1(a).`, 1, api.ErrSyntax},
		{`f(a)(b).`, 4, api.ErrSyntax},
		{`().`, 1, api.ErrSyntax},
		{`(a.`, 2, api.ErrSyntax},
		{`(a].`, 2, api.ErrSyntax},
		{`(a}.`, 2, api.ErrSyntax},
		{`(a,).`, 3, api.ErrSyntax},
		{`(a|b).`, 2, api.ErrSyntax},
		{`(a b).`, 3, api.ErrSyntax},
		{`a).`, 1, api.ErrSyntax},
		{`).`, 0, api.ErrSyntax},
		{`].`, 0, api.ErrSyntax},
		{`}.`, 0, api.ErrSyntax},
		{`,.`, 0, api.ErrSyntax},
		{`|.`, 0, api.ErrSyntax},
		{`,(a,b).`, 0, api.ErrSyntax},
		{`a b.`, 2, api.ErrSyntax},
		{`a X.`, 2, api.ErrSyntax},
		{`X 1.`, 2, api.ErrSyntax},
		{`1 a.`, 2, api.ErrSyntax},
		{`a [].`, 2, api.ErrSyntax},
		{`a {}.`, 2, api.ErrSyntax},
		{`a|b.`, 1, api.ErrSyntax},
	})
}

// TestLists is P5.1: lists with and without a rest, `[]` and `{}` with and without blanks between, and what stands in `{}`.
func TestLists(t *testing.T) {
	checkTerms(t, []good{
		{`[]`, `[]`},
		{`[ ]`, `[]`},
		{"[%]\n]", `[]`},
		{`[/**/]`, `[]`},
		{`[a]`, `.(a,[])`},
		{`[ a ]`, `.(a,[])`},
		{`[a,b]`, `.(a,.(b,[]))`},
		{`[a,b,c]`, `.(a,.(b,.(c,[])))`},
		{`[a|b]`, `.(a,b)`},
		{`[a,b,c|d]`, `.(a,.(b,.(c,d)))`},
		{`[a|[]]`, `.(a,[])`},
		{`[a|[b|[c]]]`, `.(a,.(b,.(c,[])))`},
		{`[[]]`, `.([],[])`},
		{`[[],[[]]|[]]`, `.([],.(.([],[]),[]))`},
		{`[a=b,\+c|d-e]`, `.(=(a,b),.(\+(c),-(d,e)))`},
		{`[(a,b)]`, `.(,(a,b),[])`},
		{`[a|(b,c)]`, `.(a,,(b,c))`},
		{`[(a:-b)|(c:-d)]`, `.(:-(a,b),:-(c,d))`},
		{`[-]`, `.(-,[])`},
		{`[-|-]`, `.(-,-)`},
		{`[-1]`, `.(-1,[])`},
		{`[X,Y|X]`, `.(_0,.(_1,_0)) X Y`},
		{`f([])`, `f([])`},
		{`f([a],[b])`, `f(.(a,[]),.(b,[]))`},
		{`[]=[]`, `=([],[])`},
		{`{}`, `{}`},
		{`{ }`, `{}`},
		{"{%}\n}", `{}`},
		{`{a}`, `{}(a)`},
		{`{ a }`, `{}(a)`},
		{`{a,b}`, `{}(,(a,b))`},
		{`{a:-b}`, `{}(:-(a,b))`},
		{`{-}`, `{}(-)`},
		{`{{}}`, `{}({})`},
		{`{[]}`, `{}([])`},
		{`{X}=[Y]`, `=({}(_0),.(_1,[])) X Y`},
		{`{a}-{b}`, `-({}(a),{}(b))`},
		{`'[]'=[]`, `=([],[])`},
	})
	checkBad(t, []bad{
		{`[`, 1, api.ErrSyntax},
		{`[ `, 2, api.ErrSyntax},
		{`[a`, 2, api.ErrSyntax},
		{`[a,`, 3, api.ErrSyntax},
		{`[a|`, 3, api.ErrSyntax},
		{`[a|b`, 4, api.ErrSyntax},
		{`[a. `, 2, api.ErrSyntax},
		{`[,].`, 1, api.ErrSyntax},
		{`[|].`, 1, api.ErrSyntax},
		{`[|a].`, 1, api.ErrSyntax},
		{`[a,].`, 3, api.ErrSyntax},
		{`[a,|b].`, 3, api.ErrSyntax},
		{`[a|].`, 3, api.ErrSyntax},
		{`[a|b,c].`, 4, api.ErrSyntax},
		{`[a|b|c].`, 4, api.ErrSyntax},
		{`[a b].`, 3, api.ErrSyntax},
		{`[a).`, 2, api.ErrSyntax},
		{`[a}.`, 2, api.ErrSyntax},
		{`[a:-b].`, 2, api.ErrSyntax},
		{`[a;b].`, 2, api.ErrSyntax},
		{`[a|b;c].`, 4, api.ErrSyntax},
		{`[a ',' b].`, 3, api.ErrSyntax},
		{`[a '|' b].`, 3, api.ErrSyntax},
		{`[a ']'.`, 3, api.ErrSyntax},
		{`[](a).`, 2, api.ErrSyntax},
		{`{`, 1, api.ErrSyntax},
		{`{a`, 2, api.ErrSyntax},
		{`{a).`, 2, api.ErrSyntax},
		{`{a].`, 2, api.ErrSyntax},
		{`{a b}.`, 3, api.ErrSyntax},
		{`{a|b}.`, 2, api.ErrSyntax},
		{`{a,}.`, 3, api.ErrSyntax},
		{`{,}.`, 1, api.ErrSyntax},
		{`{}(a).`, 2, api.ErrSyntax},
		{`{} {}.`, 3, api.ErrSyntax},
	})
}

// TestIntegers is P5.1: the greatest and the least integer, those beyond, and noughts ahead.
func TestIntegers(t *testing.T) {
	noughts := strings.Repeat("0", 4000)
	checkTerms(t, []good{
		{`0`, `0`},
		{`007`, `7`},
		{`00`, `0`},
		{noughts, `0`},
		{noughts + `42`, `42`},
		{`-` + noughts, `0`},
		{`-0`, `0`},
		{`-007`, `-7`},
		{`- 0`, `-(0)`},
		{`9223372036854775807`, `9223372036854775807`},
		{`0009223372036854775807`, `9223372036854775807`},
		{`-9223372036854775807`, `-9223372036854775807`},
		{`-9223372036854775808`, `-9223372036854775808`},
		{`-0009223372036854775808`, `-9223372036854775808`},
		{`- 9223372036854775807`, `-(9223372036854775807)`},
		{`a - -9223372036854775808`, `-(a,-9223372036854775808)`},
		{`'-'1`, `-1`},
		{`'-' 1`, `-(1)`},
		{"-%\n1", `-(1)`},
		{`'-'/**/1`, `-(1)`},
		{`+1`, `+(1)`},
		{`+ 1`, `+(1)`},
		{`+ -1`, `+(-1)`},
		{`- -1`, `-(-1)`},
		{`- - 1`, `-(-(1))`},
		{`-X`, `-(_0) X`},
		{`-a`, `-(a)`},
		{`-(1)`, `-(1)`},
		{`1-1`, `-(1,1)`},
		{`1 -1`, `-(1,1)`},
		{`1- 1`, `-(1,1)`},
		{`1 - -1`, `-(1,-1)`},
		{`X-1`, `-(_0,1) X`},
		{`f(-1,- 1)`, `f(-1,-(1))`},
		{`[-1|-2]`, `.(-1,-2)`},
		{`-1-1`, `-(-1,1)`},
		{`-1^2`, `^(-1,2)`},
		{`- 1^2`, `-(^(1,2))`},
		{`2^ -1`, `^(2,-1)`},
		{`2^ - 1`, `^(2,-(1))`},
	})
	checkBad(t, []bad{
		{`9223372036854775808.`, 0, api.ErrBig},
		{`9223372036854775808`, 0, api.ErrBig},
		{`99999999999999999999999.`, 0, api.ErrBig},
		{`18446744073709551616.`, 0, api.ErrBig},
		{`00009223372036854775808.`, 0, api.ErrBig},
		{strings.Repeat("9", 4000) + `.`, 0, api.ErrBig},
		{`-9223372036854775809.`, 1, api.ErrBig},
		{`-0009223372036854775809.`, 1, api.ErrBig},
		{` -99999999999999999999.`, 2, api.ErrBig},
		{`- 9223372036854775808.`, 2, api.ErrBig},
		{`'-'9223372036854775809.`, 3, api.ErrBig},
		{`1-9223372036854775808.`, 2, api.ErrBig},
		{`+9223372036854775808.`, 1, api.ErrBig},
		{`f(a,9223372036854775808 b`, 4, api.ErrBig},
		{`a b 9223372036854775808.`, 2, api.ErrSyntax},
		{`1 9223372036854775808.`, 2, api.ErrSyntax},
		{`a-- 1.`, 1, api.ErrSyntax},
		{`--1.`, 2, api.ErrSyntax},
		{`1 2.`, 2, api.ErrSyntax},
		{`1.5.`, 1, api.ErrSyntax},
	})
}

// TestVariables is P5.1: a name that comes again is the same variable, `_` never, and each sentence begins anew.
func TestVariables(t *testing.T) {
	checkTerms(t, []good{
		{`X`, `_0 X`},
		{`_`, `_0 _`},
		{`f(X,Y,X,Z,Y)`, `f(_0,_1,_0,_2,_1) X Y Z`},
		{`f(_,_)`, `f(_0,_1) _ _`},
		{`f(_,X,_,X,_)`, `f(_0,_1,_2,_1,_3) _ X _ _`},
		{`f(_a,_a,__,__,_1)`, `f(_0,_0,_1,_1,_2) _a __ _1`},
		{`B=A,A=B`, `,(=(_0,_1),=(_1,_0)) B A`},
		{`[X|X]`, `.(_0,_0) X`},
		{`[A,B|C]`, `.(_0,.(_1,_2)) A B C`},
		{`X-Y-X`, `-(-(_0,_1),_0) X Y`},
		{`X^Y^X`, `^(_0,^(_1,_0)) X Y`},
		{`Xy=XY`, `=(_0,_1) Xy XY`},
		{`f('X',X)`, `f("X",_0) X`},
		{`f(x)`, `f(x)`},
	})
	checkGood(t, []good{
		{`p(X,Y). p(Y,X). p(_,Y). a. p(_).`, `p(_0,_1) X Y; p(_0,_1) Y X; p(_0,_1) _ Y; a; p(_0) _`},
	})
	var s, want, names strings.Builder
	for i := range 400 {
		s.WriteString(",V" + strconv.Itoa(i))
		want.WriteString(",_" + strconv.Itoa(i))
		names.WriteString(" V" + strconv.Itoa(i))
	}
	checkTerms(t, []good{{`f(` + s.String()[1:] + `,V399,V0)`, `f(` + want.String()[1:] + `,_399,_0)` + names.String()}})
}

// TestLexer is P5.1: lex.Tokens' place and error, ahead of all others.
func TestLexer(t *testing.T) {
	checkBad(t, []bad{
		{`a b "`, 4, api.ErrChar},
		{`)'`, 1, api.ErrQuote},
		{`) /*`, 2, api.ErrQuote},
		{`) '\x'`, 3, api.ErrEscape},
		{`9223372036854775808 "`, 20, api.ErrChar},
		{strings.Repeat("(", 66) + "\x00", 66, api.ErrChar},
		{strings.Repeat("a ", api.MaxTokens+1), 2 * api.MaxTokens, api.ErrMany},
		{strings.Repeat(")", api.MaxText+1), 0, api.ErrLong},
		{strings.Repeat(")", api.MaxTokens+1), api.MaxTokens, api.ErrMany},
	})
	many := strings.TrimSpace(strings.Repeat("a. ", api.MaxTokens/2))
	if l, place, e := read.Read(many); len(l) != api.MaxTokens/2 || place != 0 || e != api.OK {
		t.Errorf("as many tokens as may be: %d sentences, %d, %d", len(l), place, e)
	}
	long := strings.Repeat("a", api.MaxText-1) + "."
	if l, place, e := read.Read(long); len(l) != 1 || l[0].Term.Name != long[1:]+"a" && l[0].Term.Name != long[:len(long)-1] || place != 0 || e != api.OK {
		t.Errorf("as many bytes as may be: %d sentences, %d, %d", len(l), place, e)
	}
}

// TestEnd is P5.1: a text that ends where something is still to come has its error behind its last byte, also behind blanks and remarks.
func TestEnd(t *testing.T) {
	for _, s := range []string{
		`a`, `X`, `1`, `-1`, `-`, `:-`, `\+`, `=`, `- 1`, `- a`, `f(`, `f(a`, `f(a,`, `f(a,b`, `f(a)`, `(`, `(a`, `(a)`, `((a)`, `[`, `[a`, `[a,`, `[a|`, `[a|b`, `[a]`, `[]`, `{`, `{a`, `{a}`, `{}`,
		`a=`, `a=b`, `a,`, `a:-`, `a:-b,`, `a- -`, `- -`, `- (`, `-(`, `- [`, `\+ \+`, `a. b`, `a. f(`, `a. b:-`,
	} {
		for _, behind := range []string{"", " ", "\n \t", "%", " % a.", "% )\n", " /* . */ "} {
			checkBad(t, []bad{{s + behind, len(s + behind), api.ErrSyntax}})
		}
	}
}
