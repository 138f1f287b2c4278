package num_test

import (
	"math"
	"math/big"
	"testing"

	"coney/api"
	"coney/num"
)

const (
	least = math.MinInt64
	most  = math.MaxInt64
)

// edges are the numbers near which a sum, a product, a quotient or a power comes to the end of 64 bits.
func edges() []int {
	l := []int{0}
	for _, n := range []int{1, 2, 3, 4, 5, 6, 7, 8, 9, 10, 11, 12, 15, 16, 17, 18, 62, 63, 64, 65, 99, 100, 101, 127, 128, 255, 256, 1000, 2097151, 2097152, 1 << 31, 1<<31 - 1, 1 << 32, 1<<32 + 1, 3037000499, 3037000500, 1<<53 + 1, 1 << 61, 1<<62 - 1, 1 << 62, 1<<62 + 1, most - 1, most} {
		l = append(l, n, -n)
	}
	return append(l, least)
}

// answer is what a call must come to, where c is the number among all integers.
func answer(c *big.Int) (int, api.Errno) {
	if !c.IsInt64() {
		return 0, api.ErrOver
	}
	return int(c.Int64()), api.OK
}

type binary func(a, b int) (int, api.Errno)

// holds checks f at all pairs of edges; want tells nil and an error where that is ahead of what f comes to.
func holds(t *testing.T, name string, f binary, want func(a, b int) (*big.Int, api.Errno)) {
	t.Helper()
	for _, a := range edges() {
		for _, b := range edges() {
			n, e := 0, api.OK
			if c, wrong := want(a, b); wrong != api.OK {
				e = wrong
			} else {
				n, e = answer(c)
			}
			if gotN, gotE := f(a, b); gotN != n || gotE != e {
				t.Errorf("%s(%d, %d) = %d, %d; want %d, %d", name, a, b, gotN, gotE, n, e)
			}
		}
	}
}

// always makes a reckoning of big numbers a want without errors of its own.
func always(f func(c, a, b *big.Int) *big.Int) func(a, b int) (*big.Int, api.Errno) {
	return func(a, b int) (*big.Int, api.Errno) {
		return f(new(big.Int), big.NewInt(int64(a)), big.NewInt(int64(b))), api.OK
	}
}

// unlessZero is always, but ErrZero where b is 0.
func unlessZero(f func(c, a, b *big.Int) *big.Int) func(a, b int) (*big.Int, api.Errno) {
	return func(a, b int) (*big.Int, api.Errno) {
		if b == 0 {
			return nil, api.ErrZero
		}
		return always(f)(a, b)
	}
}

// floor is worked out without the package's own way: from the quotient and the remainder that big tells, which is never below 0.
func floor(c, a, b *big.Int) *big.Int {
	rem := new(big.Int)
	c.DivMod(a, b, rem)
	if b.Sign() < 0 && rem.Sign() != 0 {
		c.Sub(c, big.NewInt(1))
	}
	return c
}

func floorRem(c, a, b *big.Int) *big.Int {
	return c.Sub(a, new(big.Int).Mul(floor(new(big.Int), a, b), b))
}

type row struct {
	name    string
	f       binary
	a, b, n int
	e       api.Errno
}

func rows(t *testing.T, l []row) {
	t.Helper()
	for _, x := range l {
		if n, e := x.f(x.a, x.b); n != x.n || e != x.e {
			t.Errorf("%s(%d, %d) = %d, %d; want %d, %d", x.name, x.a, x.b, n, e, x.n, x.e)
		}
	}
}

// TestSums is P1.1, of two numbers.
func TestSums(t *testing.T) {
	rows(t, []row{
		{"Add", num.Add, 40, 2, 42, api.OK},
		{"Add", num.Add, most, 0, most, api.OK},
		{"Add", num.Add, most, 1, 0, api.ErrOver},
		{"Add", num.Add, least, -1, 0, api.ErrOver},
		{"Add", num.Add, least, least, 0, api.ErrOver},
		{"Sub", num.Sub, 40, 42, -2, api.OK},
		{"Sub", num.Sub, 0, least, 0, api.ErrOver},
		{"Sub", num.Sub, least, least, 0, api.OK},
		{"Sub", num.Sub, least, 1, 0, api.ErrOver},
		{"Mul", num.Mul, -6, 7, -42, api.OK},
		{"Mul", num.Mul, least, -1, 0, api.ErrOver},
		{"Mul", num.Mul, -1, least, 0, api.ErrOver},
		{"Mul", num.Mul, least, 0, 0, api.OK},
		{"Mul", num.Mul, 1 << 62, 2, 0, api.ErrOver},
		{"Mul", num.Mul, 1 << 32, 1 << 32, 0, api.ErrOver},
	})
	holds(t, "Add", num.Add, always((*big.Int).Add))
	holds(t, "Sub", num.Sub, always((*big.Int).Sub))
	holds(t, "Mul", num.Mul, always((*big.Int).Mul))
}

// TestSigns is P1.1, of one number.
func TestSigns(t *testing.T) {
	for _, a := range edges() {
		c := big.NewInt(int64(a))
		n, e := answer(new(big.Int).Neg(c))
		if gotN, gotE := num.Neg(a); gotN != n || gotE != e {
			t.Errorf("Neg(%d) = %d, %d; want %d, %d", a, gotN, gotE, n, e)
		}
		n, e = answer(new(big.Int).Abs(c))
		if gotN, gotE := num.Abs(a); gotN != n || gotE != e {
			t.Errorf("Abs(%d) = %d, %d; want %d, %d", a, gotN, gotE, n, e)
		}
	}
	if n, e := num.Abs(least); n != 0 || e != api.ErrOver {
		t.Errorf("Abs(least) = %d, %d", n, e)
	}
	if n, e := num.Neg(most); n != least+1 || e != api.OK {
		t.Errorf("Neg(most) = %d, %d", n, e)
	}
}

// TestQuotients is P1.2.
func TestQuotients(t *testing.T) {
	rows(t, []row{
		{"Quo", num.Quo, -7, 2, -3, api.OK},
		{"Rem", num.Rem, -7, 2, -1, api.OK},
		{"Div", num.Div, -7, 2, -4, api.OK},
		{"Mod", num.Mod, -7, 2, 1, api.OK},
		{"Quo", num.Quo, 7, -2, -3, api.OK},
		{"Rem", num.Rem, 7, -2, 1, api.OK},
		{"Div", num.Div, 7, -2, -4, api.OK},
		{"Mod", num.Mod, 7, -2, -1, api.OK},
		{"Div", num.Div, -7, -2, 3, api.OK},
		{"Mod", num.Mod, -7, -2, -1, api.OK},
		{"Div", num.Div, -8, 2, -4, api.OK},
		{"Mod", num.Mod, -8, 2, 0, api.OK},
		{"Quo", num.Quo, least, -1, 0, api.ErrOver},
		{"Rem", num.Rem, least, -1, 0, api.OK},
		{"Div", num.Div, least, -1, 0, api.ErrOver},
		{"Mod", num.Mod, least, -1, 0, api.OK},
		{"Div", num.Div, least, most, -2, api.OK},
		{"Mod", num.Mod, least, most, most - 1, api.OK},
		{"Quo", num.Quo, least, 0, 0, api.ErrZero},
		{"Rem", num.Rem, 5, 0, 0, api.ErrZero},
		{"Div", num.Div, 0, 0, 0, api.ErrZero},
		{"Mod", num.Mod, most, 0, 0, api.ErrZero},
	})
	holds(t, "Quo", num.Quo, unlessZero((*big.Int).Quo))
	holds(t, "Rem", num.Rem, unlessZero((*big.Int).Rem))
	holds(t, "Div", num.Div, unlessZero(floor))
	holds(t, "Mod", num.Mod, unlessZero(floorRem))
}

// power is worked out factor by factor, and given up beyond 128 bits, where it can't come back.
func power(a, n int) (*big.Int, api.Errno) {
	if n < 0 {
		return nil, api.ErrArg
	}
	if a == 0 && n > 0 {
		return new(big.Int), api.OK
	}
	c := big.NewInt(1)
	if a == 1 || a == -1 && n%2 == 0 || n == 0 {
		return c, api.OK
	}
	if a == -1 {
		return c.Neg(c), api.OK
	}
	for i := 0; i < n && c.BitLen() < 128; i++ {
		c.Mul(c, big.NewInt(int64(a)))
	}
	return c, api.OK
}

// shifted is a times 2^n, n no more than suffices to be beyond 64 bits.
func shifted(a, n int) (*big.Int, api.Errno) {
	if n < 0 {
		return nil, api.ErrArg
	}
	return new(big.Int).Lsh(big.NewInt(int64(a)), uint(min(n, 200))), api.OK
}

func shiftedBack(a, n int) (*big.Int, api.Errno) {
	if n < 0 {
		return nil, api.ErrArg
	}
	down := new(big.Int).Lsh(big.NewInt(1), uint(min(n, 200)))
	return floor(new(big.Int), big.NewInt(int64(a)), down), api.OK
}

// TestPowers is P1.3.
func TestPowers(t *testing.T) {
	rows(t, []row{
		{"Pow", num.Pow, 3, 4, 81, api.OK},
		{"Pow", num.Pow, -2, 63, least, api.OK},
		{"Pow", num.Pow, 2, 63, 0, api.ErrOver},
		{"Pow", num.Pow, 2, 62, 1 << 62, api.OK},
		{"Pow", num.Pow, -2, 64, 0, api.ErrOver},
		{"Pow", num.Pow, 0, 0, 1, api.OK},
		{"Pow", num.Pow, 0, most, 0, api.OK},
		{"Pow", num.Pow, 1, most, 1, api.OK},
		{"Pow", num.Pow, -1, most, -1, api.OK},
		{"Pow", num.Pow, -1, most - 1, 1, api.OK},
		{"Pow", num.Pow, most, most, 0, api.ErrOver},
		{"Pow", num.Pow, least, 1, least, api.OK},
		{"Pow", num.Pow, 1, -1, 0, api.ErrArg},
		{"Pow", num.Pow, 2, least, 0, api.ErrArg},
		{"Gcd", num.Gcd, 12, -18, 6, api.OK},
		{"Gcd", num.Gcd, 0, 0, 0, api.OK},
		{"Gcd", num.Gcd, 0, -7, 7, api.OK},
		{"Gcd", num.Gcd, least, 0, 0, api.ErrOver},
		{"Gcd", num.Gcd, 0, least, 0, api.ErrOver},
		{"Gcd", num.Gcd, least, least, 0, api.ErrOver},
		{"Gcd", num.Gcd, least, -1, 1, api.OK},
		{"Gcd", num.Gcd, 1 << 62, least, 1 << 62, api.OK},
		{"Shl", num.Shl, 3, 2, 12, api.OK},
		{"Shl", num.Shl, -1, 63, least, api.OK},
		{"Shl", num.Shl, 1, 63, 0, api.ErrOver},
		{"Shl", num.Shl, 1, 64, 0, api.ErrOver},
		{"Shl", num.Shl, -1, most, 0, api.ErrOver},
		{"Shl", num.Shl, 0, most, 0, api.OK},
		{"Shl", num.Shl, 0, -1, 0, api.ErrArg},
		{"Shr", num.Shr, 13, 2, 3, api.OK},
		{"Shr", num.Shr, -13, 2, -4, api.OK},
		{"Shr", num.Shr, -1, 100, -1, api.OK},
		{"Shr", num.Shr, least, 63, -1, api.OK},
		{"Shr", num.Shr, most, most, 0, api.OK},
		{"Shr", num.Shr, 13, -1, 0, api.ErrArg},
		{"Shr", num.Shr, 0, least, 0, api.ErrArg},
	})
	holds(t, "Pow", num.Pow, power)
	holds(t, "Shl", num.Shl, shifted)
	holds(t, "Shr", num.Shr, shiftedBack)
	holds(t, "Gcd", num.Gcd, always(func(c, a, b *big.Int) *big.Int {
		return c.GCD(nil, nil, new(big.Int).Abs(a), new(big.Int).Abs(b))
	}))
}

// TestWhatFollows is P1.5; where a quotient is beyond 64 bits, b is -1 and nothing is left over.
func TestWhatFollows(t *testing.T) {
	for _, a := range edges() {
		for _, b := range edges() {
			if b == 0 {
				continue
			}
			rem, e := num.Rem(a, b)
			if e != api.OK || !nearer(rem, b) || rem != 0 && (rem < 0) != (a < 0) {
				t.Errorf("Rem(%d, %d) = %d, %d", a, b, rem, e)
			}
			mod, e := num.Mod(a, b)
			if e != api.OK || !nearer(mod, b) || mod != 0 && (mod < 0) != (b < 0) {
				t.Errorf("Mod(%d, %d) = %d, %d", a, b, mod, e)
			}
			back(t, "Quo and Rem", num.Quo, a, b, rem)
			back(t, "Div and Mod", num.Div, a, b, mod)
		}
	}
}

// nearer tells whether a is nearer to 0 than b; both are taken below 0, where the least integer has its place too.
func nearer(a, b int) bool {
	return min(a, -a) > min(b, -b)
}

// back checks that the quotient's b times and what is left over are a again.
func back(t *testing.T, name string, quotient binary, a, b, left int) {
	t.Helper()
	q, e := quotient(a, b)
	if a == least && b == -1 {
		if q != 0 || e != api.ErrOver || left != 0 {
			t.Errorf("%s of %d, %d: %d, %d, %d", name, a, b, q, e, left)
		}
		return
	}
	c := new(big.Int).Mul(big.NewInt(int64(q)), big.NewInt(int64(b)))
	if c.Add(c, big.NewInt(int64(left))); e != api.OK || c.Cmp(big.NewInt(int64(a))) != 0 {
		t.Errorf("%s of %d, %d: %d, %d, %d", name, a, b, q, e, left)
	}
}
