package weigh_test

import (
	"math"
	"math/big"
	"slices"
	"testing"

	"coney/weigh"
)

// edge is a weight and its class: the classes say the order, without a comparison of floats. Alike weights are of one class.
type edge struct {
	x     float64
	class int
}

// edges holds each kind of weight at which an order, a sum or a cleaning could go wrong; the classes are written out by hand.
func edges() []edge {
	return []edge{
		{math.Inf(-1), 0},
		{-math.MaxFloat64, 1},
		{-1.5, 2},
		{-0x1p-1022, 3},
		{-math.SmallestNonzeroFloat64, 4},
		{math.Copysign(0, -1), 5},
		{0, 5},
		{math.SmallestNonzeroFloat64, 6},
		{1, 7},
		{1 + 0x1p-52, 8},
		{math.MaxFloat64, 9},
		{math.Inf(1), 10},
		{math.NaN(), 11},
		{math.Float64frombits(0xfff8000000000000), 11}, // the sign set
		{math.Float64frombits(0x7ff0000000000001), 11}, // a signalling one
	}
}

// shortLists tells each list of n edges.
func shortLists(n int, each func(l []edge)) {
	l := make([]edge, n)
	var fill func(i int)
	fill = func(i int) {
		if i == n {
			each(l)
			return
		}
		for _, e := range edges() {
			l[i] = e
			fill(i + 1)
		}
	}
	fill(0)
}

// longLists tells lists that are too long for a sort of small ones: a sort that is not stable shows there.
func longLists(each func(l []edge)) {
	pool := edges()
	for _, n := range []int{12, 13, 31, 64, 65, 200, 1000} {
		for _, step := range []int{0, 1, 4, 7, 11, 14} {
			l := make([]edge, n)
			for i := range l {
				l[i] = pool[(i*step+i*i/3)%len(pool)]
			}
			each(l)
		}
	}
}

func allLists(each func(l []edge)) {
	for n := range 4 {
		shortLists(n, each)
	}
	longLists(each)
}

func weights(l []edge) []float64 {
	w := make([]float64, len(l))
	for i, e := range l {
		w[i] = e.x
	}
	return w
}

// orderByClass puts each place where as many places stand ahead of it as are of a lower class, or of its own and lower.
func orderByClass(l []edge) []int {
	order := make([]int, len(l))
	for i, e := range l {
		ahead := 0
		for j, f := range l {
			if f.class < e.class || f.class == e.class && j < i {
				ahead++
			}
		}
		order[ahead] = i
	}
	return order
}

func ranksByClass(l []edge) []int {
	ranks := make([]int, len(l))
	for i, e := range l {
		for _, f := range l {
			if f.class < e.class {
				ranks[i]++
			}
		}
	}
	return ranks
}

// bits holds floats against each other so that -0 is not 0, and what is no number is like itself.
func bits(w []float64) []uint64 {
	l := make([]uint64, len(w))
	for i, x := range w {
		l[i] = math.Float64bits(x)
	}
	return l
}

func sameFloats(a, b []float64) bool {
	return slices.Equal(bits(a), bits(b))
}

var (
	nan     = math.NaN()
	inf     = math.Inf(1)
	minus0  = math.Copysign(0, -1)
	chapter = []float64{nan, 0, minus0, -inf, nan, 1}
)

// TestLess is P2.1.
func TestLess(t *testing.T) {
	for _, x := range []struct {
		a, b float64
		want bool
	}{
		{1, 2, true}, {2, 1, false}, {1, 1, false}, {-2, -1, true}, {-1, -2, false},
		{minus0, 0, false}, {0, minus0, false},
		{nan, 1, false}, {1, nan, true}, {nan, nan, false}, {inf, nan, true}, {-inf, nan, true}, {nan, inf, false}, {nan, -inf, false},
		{-inf, inf, true}, {inf, -inf, false}, {inf, inf, false}, {-inf, -inf, false},
		{math.MaxFloat64, inf, true}, {-inf, -math.MaxFloat64, true}, {0, math.SmallestNonzeroFloat64, true}, {-math.SmallestNonzeroFloat64, minus0, true},
	} {
		if got := weigh.Less(x.a, x.b); got != x.want {
			t.Errorf("Less(%v, %v) = %v", x.a, x.b, got)
		}
	}
	shortLists(2, func(l []edge) {
		if got := weigh.Less(l[0].x, l[1].x); got != (l[0].class < l[1].class) {
			t.Errorf("Less(%v, %v) = %v", l[0].x, l[1].x, got)
		}
	})
}

// TestOrder is P2.2.
func TestOrder(t *testing.T) {
	for _, x := range []struct {
		w    []float64
		want []int
	}{
		{chapter, []int{3, 1, 2, 5, 0, 4}},
		{nil, nil},
		{[]float64{}, nil},
		{[]float64{7}, []int{0}},
		{[]float64{nan}, []int{0}},
		{[]float64{3, 1, 2}, []int{1, 2, 0}},
		{[]float64{5, 5, 5}, []int{0, 1, 2}},
		{[]float64{0, minus0, 0}, []int{0, 1, 2}},
		{[]float64{nan, inf, nan, -inf}, []int{3, 1, 0, 2}},
	} {
		if got := weigh.Order(x.w); !slices.Equal(got, x.want) {
			t.Errorf("Order(%v) = %v; want %v", x.w, got, x.want)
		}
	}
	allLists(func(l []edge) {
		w := weights(l)
		if got, want := weigh.Order(w), orderByClass(l); !slices.Equal(got, want) {
			t.Fatalf("Order(%v) = %v; want %v", w, got, want)
		}
	})
}

// TestBest is P2.3.
func TestBest(t *testing.T) {
	const no, yes = false, true
	for _, x := range []struct {
		w    []float64
		skip []bool
		want int
	}{
		{chapter, nil, 3},
		{chapter, []bool{no, no, no, yes}, 1},
		{chapter, []bool{no, yes, no, yes}, 2},
		{chapter, []bool{no, yes, yes, yes, no, yes}, 0},
		{chapter, []bool{yes, yes, yes, yes, no, yes}, 4},
		{chapter, []bool{yes, yes, yes, yes, yes, yes}, -1},
		{chapter, []bool{yes, yes, yes, yes, yes, yes, no, no}, -1},
		{chapter, []bool{no, no, no, yes, no, no, yes, yes, yes}, 1},
		{nil, nil, -1},
		{[]float64{}, []bool{}, -1},
		{nil, []bool{no, no}, -1},
		{[]float64{nan}, nil, 0},
		{[]float64{nan, nan}, []bool{yes}, 1},
		{[]float64{0, minus0}, nil, 0},
		{[]float64{minus0, 0}, []bool{yes}, 1},
		{[]float64{inf, inf, inf}, []bool{yes}, 1},
	} {
		if got := weigh.Best(x.w, x.skip); got != x.want {
			t.Errorf("Best(%v, %v) = %d; want %d", x.w, x.skip, got, x.want)
		}
	}
}

// bestOf reads P2.3 off the order.
func bestOf(order []int, skip []bool) int {
	for _, i := range order {
		if i >= len(skip) || !skip[i] {
			return i
		}
	}
	return -1
}

// TestBestOfAll is P2.3, with skip lists of all kinds, among them shorter and longer ones than the weights.
func TestBestOfAll(t *testing.T) {
	check := func(l []edge, skip []bool) {
		w := weights(l)
		if got, want := weigh.Best(w, skip), bestOf(orderByClass(l), skip); got != want {
			t.Fatalf("Best(%v, %v) = %d; want %d", w, skip, got, want)
		}
	}
	for n := range 4 {
		shortLists(n, func(l []edge) {
			for set := range 16 {
				for long := range 5 {
					skip := make([]bool, long)
					for i := range skip {
						skip[i] = set>>i&1 == 1
					}
					check(l, skip)
				}
			}
		})
	}
	longLists(func(l []edge) {
		for _, every := range []int{1, 2, 3, 7} {
			for _, long := range []int{0, len(l) / 2, len(l), len(l) + 3} {
				skip := make([]bool, long)
				for i := range skip {
					skip[i] = i%every == 0
				}
				check(l, skip)
			}
		}
	})
}

// TestClean is P2.4: held by bits, so -0 is not 0.
func TestClean(t *testing.T) {
	const most = math.MaxFloat64
	for _, x := range []struct{ w, want []float64 }{
		{[]float64{nan, minus0, inf}, []float64{0, 0, most}},
		{[]float64{-inf, 0, -1.5, 2}, []float64{-most, 0, -1.5, 2}},
		{[]float64{most, -most, math.SmallestNonzeroFloat64, -math.SmallestNonzeroFloat64}, []float64{most, -most, math.SmallestNonzeroFloat64, -math.SmallestNonzeroFloat64}},
		{[]float64{math.Nextafter(most, 0), 0x1p-1022, -0x1p-1022, 1 + 0x1p-52}, []float64{math.Nextafter(most, 0), 0x1p-1022, -0x1p-1022, 1 + 0x1p-52}},
		{[]float64{math.Float64frombits(0xfff8000000000000), math.Float64frombits(0x7ff0000000000001)}, []float64{0, 0}},
		{nil, nil},
		{[]float64{}, nil},
	} {
		if got := weigh.Clean(x.w); !sameFloats(got, x.want) {
			t.Errorf("Clean(%v) = %v; want %v", x.w, got, x.want)
		}
	}
}

// TestMean is P2.5: held by bits.
func TestMean(t *testing.T) {
	const most = math.MaxFloat64
	for _, x := range []struct {
		w    []float64
		want float64
	}{
		{nil, 0},
		{[]float64{}, 0},
		{[]float64{4}, 4},
		{[]float64{1, 2, 6}, 3},
		{[]float64{1, 1, 1, 1, 1, 1, 1, 1, 1, 1}, 1 - 0x1p-53}, // ten rounded tenths
		{[]float64{nan, 4}, 2},
		{[]float64{nan, nan}, 0},
		{[]float64{minus0}, 0},
		{[]float64{minus0, minus0}, 0},
		{[]float64{inf, -inf}, 0},
		{[]float64{inf}, most},
		{[]float64{-inf, -inf}, -most},
		{[]float64{most, most}, most},
		{[]float64{inf, inf, inf}, inf}, // three rounded thirds are more than the greatest finite number
		{[]float64{-inf, -inf, -inf}, -inf},
		{[]float64{inf, inf, inf, -inf}, math.Nextafter(most/2, 0)},                // three quarters of it have two bits too many
		{[]float64{-math.SmallestNonzeroFloat64, -math.SmallestNonzeroFloat64}, 0}, // each half is -0
		{[]float64{0x1p56, 8, -0x1p56, 8}, 2},                                      // the first 8 is lost beside the great one, the last is not
		{[]float64{0x1p56, -0x1p56, 8, 8}, 4},
	} {
		if got := weigh.Mean(x.w); math.Float64bits(got) != math.Float64bits(x.want) {
			t.Errorf("Mean(%v) = %v; want %v", x.w, got, x.want)
		}
	}
}

// nearest rounds a fraction to a float64.
func nearest(r *big.Rat) float64 {
	x, _ := r.Float64()
	return x
}

// meanOfFractions rounds exact quotients and exact sums, each once; an infinite sum stays, as finite parts cannot bring it back.
func meanOfFractions(w []float64) float64 {
	sum := 0.0
	for _, a := range w {
		part := new(big.Rat).SetFloat64(a)
		part.Quo(part, new(big.Rat).SetInt64(int64(len(w))))
		if math.IsInf(sum, 0) {
			return sum
		}
		of := new(big.Rat).SetFloat64(nearest(part))
		sum = nearest(of.Add(of, new(big.Rat).SetFloat64(sum)))
	}
	return sum
}

// TestMeanByFractions is P2.5, held against fractions that are rounded where the chapter says float64s.
func TestMeanByFractions(t *testing.T) {
	check := func(w []float64) {
		got, want := weigh.Mean(w), meanOfFractions(weigh.Clean(w))
		if math.Float64bits(got) != math.Float64bits(want) {
			t.Fatalf("Mean(%v) = %v; want %v", w, got, want)
		}
	}
	for n := range 4 {
		shortLists(n, func(l []edge) { check(weights(l)) })
	}
	for n := 1; n <= 60; n++ {
		high, mixed := make([]float64, n), make([]float64, n)
		for i := range n {
			high[i] = inf
			mixed[i] = float64((i*37+11)%101-50) / 7
		}
		check(high)
		check(mixed)
	}
}

// TestRanks is P2.6.
func TestRanks(t *testing.T) {
	for _, x := range []struct {
		w    []float64
		want []int
	}{
		{chapter, []int{4, 1, 1, 0, 4, 3}},
		{nil, nil},
		{[]float64{}, nil},
		{[]float64{nan}, []int{0}},
		{[]float64{30, 10, 20}, []int{2, 0, 1}},
		{[]float64{5, 5, 5}, []int{0, 0, 0}},
		{[]float64{2, 1, 2, 1, 3}, []int{2, 0, 2, 0, 4}},
		{[]float64{minus0, 0, nan, nan, inf}, []int{0, 0, 3, 3, 2}},
	} {
		if got := weigh.Ranks(x.w); !slices.Equal(got, x.want) {
			t.Errorf("Ranks(%v) = %v; want %v", x.w, got, x.want)
		}
	}
	allLists(func(l []edge) {
		w := weights(l)
		got := weigh.Ranks(w)
		if want := ranksByClass(l); !slices.Equal(got, want) {
			t.Fatalf("Ranks(%v) = %v; want %v", w, got, want)
		}
		for i := range l {
			for j := range l {
				if (got[i] < got[j]) != weigh.Less(w[i], w[j]) {
					t.Fatalf("Ranks(%v) = %v: not of the same order at %d, %d", w, got, i, j)
				}
			}
		}
	})
}

// TestStrictWeak is P2.7, of the order.
func TestStrictWeak(t *testing.T) {
	alike := func(a, b float64) bool { return !weigh.Less(a, b) && !weigh.Less(b, a) }
	shortLists(3, func(l []edge) {
		a, b, c := l[0].x, l[1].x, l[2].x
		if weigh.Less(a, a) {
			t.Errorf("%v is ahead of itself", a)
		}
		if weigh.Less(a, b) && weigh.Less(b, a) {
			t.Errorf("%v and %v are ahead of one another", a, b)
		}
		if weigh.Less(a, b) && weigh.Less(b, c) && !weigh.Less(a, c) {
			t.Errorf("ahead, but not through: %v, %v, %v", a, b, c)
		}
		if alike(a, b) && alike(b, c) && !alike(a, c) {
			t.Errorf("alike, but not through: %v, %v, %v", a, b, c)
		}
	})
}

// TestWhatFollows is P2.7, of Order and Clean.
func TestWhatFollows(t *testing.T) {
	allLists(func(l []edge) {
		w := weights(l)
		places := weigh.Order(w)
		slices.Sort(places)
		if len(places) != len(w) {
			t.Fatalf("Order(%v) has %d places", w, len(places))
		}
		for i, place := range places {
			if place != i {
				t.Fatalf("Order(%v) does not hold each place once", w)
			}
		}
		once := weigh.Clean(w)
		for _, x := range once {
			if math.IsNaN(x) || math.IsInf(x, 0) || x == 0 && math.Signbit(x) {
				t.Fatalf("Clean(%v) has %v", w, x)
			}
		}
		if len(once) != len(w) || !sameFloats(weigh.Clean(once), once) {
			t.Fatalf("Clean(%v) = %v is not clean", w, once)
		}
	})
}
