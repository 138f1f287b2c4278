package num

import (
	"strings"

	"coney/api"
)

const (
	base       = 10
	mostDigits = 19
	mostBytes  = 1 + mostDigits
)

// Print comes to the last digit first, so the text is filled from its end on.
func Print(a int) string {
	var room [mostBytes]byte
	first := mostBytes
	rest := magnitude(a)
	for range mostDigits {
		first--
		room[first] = '0' + byte(rest%base)
		rest /= base
		if rest == 0 {
			break
		}
	}
	if a < 0 {
		first--
		room[first] = '-'
	}
	return string(room[first:])
}

// magnitude has no sign, since that of the least integer is beyond those with one.
func magnitude(a int) uint64 {
	if a < 0 {
		return -uint64(a)
	}
	return uint64(a)
}

// Parse holds the number's own text against s: so noughts ahead, -0 and a text without digits need no rules of their own.
func Parse(s string) (int, api.Errno) {
	n, ok := reckon(s)
	if !ok || Print(n) != s {
		return 0, api.ErrNumber
	}
	return n, api.OK
}

// reckon takes the digits away from 0, as the integers reach one further below it than above it.
func reckon(s string) (int, bool) {
	digits := strings.TrimPrefix(s, "-")
	n := 0
	for i := range len(digits) {
		d := digits[i]
		if d < '0' || d > '9' {
			return 0, false
		}
		tens, e := Mul(n, base)
		if e != api.OK {
			return 0, false
		}
		n, e = Sub(tens, int(d-'0'))
		if e != api.OK {
			return 0, false
		}
	}
	if len(digits) < len(s) {
		return n, true
	}
	n, e := Neg(n)
	return n, e == api.OK
}
