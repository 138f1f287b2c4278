// Package num is layer 1: see shared/doc/01-num.md.
package num

import (
	"math"

	"coney/api"
)

const (
	least = math.MinInt64
	wide  = 64 // bits of an integer
)

func Add(a, b int) (int, api.Errno) {
	c := a + b
	if (c < a) != (b < 0) {
		return 0, api.ErrOver
	}
	return c, api.OK
}

func Sub(a, b int) (int, api.Errno) {
	c := a - b
	if (c > a) != (b < 0) {
		return 0, api.ErrOver
	}
	return c, api.OK
}

func Mul(a, b int) (int, api.Errno) {
	if b == 0 {
		return 0, api.OK
	}
	// Dividing back can't show this one product: that quotient wraps round too.
	if a == least && b == -1 {
		return 0, api.ErrOver
	}
	c := a * b
	if c/b != a {
		return 0, api.ErrOver
	}
	return c, api.OK
}

func Neg(a int) (int, api.Errno) {
	return Sub(0, a)
}

func Abs(a int) (int, api.Errno) {
	if a < 0 {
		return Neg(a)
	}
	return a, api.OK
}

func Quo(a, b int) (int, api.Errno) {
	if b == 0 {
		return 0, api.ErrZero
	}
	if a == least && b == -1 {
		return 0, api.ErrOver
	}
	return a / b, api.OK
}

func Rem(a, b int) (int, api.Errno) {
	if b == 0 {
		return 0, api.ErrZero
	}
	return a % b, api.OK
}

func Div(a, b int) (int, api.Errno) {
	q, e := Quo(a, b)
	if e != api.OK {
		return 0, e
	}
	if leansAway(a%b, b) {
		q--
	}
	return q, api.OK
}

func Mod(a, b int) (int, api.Errno) {
	r, e := Rem(a, b)
	if e != api.OK {
		return 0, e
	}
	if leansAway(r, b) {
		r += b
	}
	return r, api.OK
}

// leansAway tells whether a quotient whose point was cut off lies above the true one: only then do Div and Mod differ from Quo and Rem.
func leansAway(rem, b int) bool {
	return rem != 0 && (rem < 0) != (b < 0)
}

func Pow(a, n int) (int, api.Errno) {
	if n < 0 {
		return 0, api.ErrArg
	}
	c := 1
	for range factors(a, n) {
		next, e := Mul(c, a)
		if e != api.OK {
			return 0, e
		}
		c = next
	}
	return c, api.OK
}

// factors tells how many of the n factors a need be taken: more of -1, 0 and 1 come to the same again and again, and that many of any other are beyond 64 bits anyway.
func factors(a, n int) int {
	if n <= wide {
		return n
	}
	if a < -1 || a > 1 {
		return wide
	}
	return 2 - n%2
}

func Gcd(a, b int) (int, api.Errno) {
	for b != 0 {
		a, b = b, a%b
	}
	return Abs(a)
}

func Shl(a, n int) (int, api.Errno) {
	if n < 0 {
		return 0, api.ErrArg
	}
	c := a << n
	if c>>n != a {
		return 0, api.ErrOver
	}
	return c, api.OK
}

func Shr(a, n int) (int, api.Errno) {
	if n < 0 {
		return 0, api.ErrArg
	}
	return a >> n, api.OK
}
