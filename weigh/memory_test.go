package weigh_test

import (
	"slices"
	"testing"

	"coney/weigh"
)

// calls does all that the package does with w and skip.
func calls(w []float64, skip []bool) {
	weigh.Order(w)
	weigh.Best(w, skip)
	weigh.Clean(w)
	weigh.Mean(w)
	weigh.Ranks(w)
}

// TestArgumentsStay is R3: neither the elements nor what lies behind a list's length is changed.
func TestArgumentsStay(t *testing.T) {
	for n := range len(chapter) + 1 {
		w, skip := slices.Clone(chapter), []bool{true, false, true, false, true, false}
		calls(w[:n], skip[:n])
		if !sameFloats(w, chapter) {
			t.Errorf("of %d: the weights became %v", n, w)
		}
		if !slices.Equal(skip, []bool{true, false, true, false, true, false}) {
			t.Errorf("of %d: the skip list became %v", n, skip)
		}
	}
}

// spoil writes over a list and its spare room.
func spoil[E any](l []E, with E) {
	l = l[:cap(l)]
	for i := range l {
		l[i] = with
	}
}

// TestAnswersAreNew is R3: an answer shares no memory with an argument, nor with another answer, its spare room neither; also where nothing was to be done.
func TestAnswersAreNew(t *testing.T) {
	for _, from := range [][]float64{chapter, {1, 2, 3}, {0}, {}} {
		w := slices.Clone(from)
		order, ranks, clean := weigh.Order(w), weigh.Ranks(w), weigh.Clean(w)
		wantOrder, wantRanks, wantClean := slices.Clone(order), slices.Clone(ranks), slices.Clone(clean)
		spoil(weigh.Order(w), -7)
		spoil(weigh.Ranks(w), -7)
		spoil(weigh.Clean(w), -7)
		if !sameFloats(w, from) {
			t.Errorf("of %v: an answer was written over, and the weights became %v", from, w)
		}
		spoil(w, 99)
		if !slices.Equal(order, wantOrder) || !slices.Equal(ranks, wantRanks) || !sameFloats(clean, wantClean) {
			t.Errorf("of %v: the weights or another answer were written over, and the answers became %v, %v, %v", from, order, ranks, clean)
		}
	}
}

// TestOneAnswer is R5: calls in between count for nothing.
func TestOneAnswer(t *testing.T) {
	order, ranks, clean, mean := weigh.Order(chapter), weigh.Ranks(chapter), weigh.Clean(chapter), weigh.Mean(chapter)
	calls([]float64{9, 8, 7, nan, 5}, []bool{true})
	if !slices.Equal(weigh.Order(chapter), order) || !slices.Equal(weigh.Ranks(chapter), ranks) || !sameFloats(weigh.Clean(chapter), clean) || weigh.Mean(chapter) != mean {
		t.Error("a second call answers otherwise than the first")
	}
}
