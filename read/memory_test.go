package read_test

import (
	"strings"
	"testing"

	"coney/api"
	"coney/read"
)

// spoil writes over all that a term's lists hold, and their spare room.
func spoil(t api.Term) {
	args := t.Args[:cap(t.Args)]
	for i := range args {
		spoil(args[i])
		args[i] = api.Term{Kind: -1, N: -1, Name: "spoilt"}
	}
}

func spoilAll(l []api.Sentence) {
	l = l[:cap(l)]
	for i := range l {
		spoil(l[i].Term)
		names := l[i].Names[:cap(l[i].Names)]
		for j := range names {
			names[j] = "spoilt"
		}
		l[i] = api.Sentence{Names: names}
	}
}

// TestNewMemory is R3 and R5: no answer is part of another, its spare room neither, and calls in between count for nothing.
func TestNewMemory(t *testing.T) {
	const s = `p(X,Y,Z) :- q([X,_|Y]), {r(-1)}, \+ f(Z, a-b-c). p(_,A,B,A). [] . p(- C, [D]).`
	const want = `:-(p(_0,_1,_2),,(q(.(_0,.(_3,_1))),,({}(r(-1)),\+(f(_2,-(-(a,b),c)))))) X Y Z _; p(_0,_1,_2,_1) _ A B; []; p(-(_0),.(_1,[])) C D`
	const one = `p(X,Y,_,[X,Y])`
	const wantOne = `p(_0,_1,_2,.(_0,.(_1,[]))) X Y _`
	first, _, _ := read.Read(s)
	firstOne, _, _ := read.One(one)
	second, _, _ := read.Read(s)
	secondOne, _, _ := read.One(one)
	checkBad(t, []bad{{`a b.`, 2, api.ErrSyntax}})
	checkGood(t, []good{{s, want}})
	spoilAll(first)
	spoilAll([]api.Sentence{firstOne})
	if toldAll(second) != want || told(secondOne) != wantOne {
		t.Errorf("an answer was written over, and others became %s, %s", toldAll(second), told(secondOne))
	}
	checkGood(t, []good{{s, want}})
	checkOne(t, []good{{one, wantOne}})
}

// TestListsApart is R3: of one answer no two lists share memory, what is put behind one stands in no other.
func TestListsApart(t *testing.T) {
	const s = `p(A,B,C). p(D,E,F,G,H). f(a,[b,c],d). p(X).`
	l, _, _ := read.Read(s)
	want := toldAll(l)
	for i := range l {
		names := l[i].Names[len(l[i].Names):cap(l[i].Names)]
		for j := range names {
			names[j] = "spoilt"
		}
		behind(l[i].Term)
	}
	if got := toldAll(l); got != want {
		t.Errorf("spare room was written over, and the answer became %s", got)
	}
	spoilAll(l[:1:1])
	if got := toldAll(l[1:]); !strings.HasSuffix(want, "; "+got) {
		t.Errorf("a sentence was written over, and the others became %s", got)
	}
}

// behind writes over the spare room of a term's lists.
func behind(t api.Term) {
	for _, x := range t.Args {
		behind(x)
	}
	spare := t.Args[len(t.Args):cap(t.Args)]
	for i := range spare {
		spare[i] = api.Term{Kind: -1}
	}
}
