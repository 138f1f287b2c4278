package lex

// The bytes that stand in quotes as they are.
const (
	least    = 32
	greatest = 126
)

// The classes of bytes, by what begins with one.
const (
	alien = iota // no token
	blank        // neither
	small
	great
	digit
	sign
	quote
	alone // an atom of this one byte
	mark
)

func class(b byte) int {
	switch {
	case 'a' <= b && b <= 'z':
		return small
	case 'A' <= b && b <= 'Z' || b == '_':
		return great
	case '0' <= b && b <= '9':
		return digit
	}
	switch b {
	case ' ', '\t', '\n', '\r':
		return blank
	case '+', '-', '*', '/', '\\', '^', '<', '>', '=', ':', '.', '?', '@', '#', '$', '&', '~':
		return sign
	case '\'':
		return quote
	case '!', ';':
		return alone
	case '(', ')', '[', ']', '{', '}', ',', '|':
		return mark
	}
	return alien
}

// joins tells whether a byte of the class next goes on with the token that one of the class first began.
func joins(first, next int) bool {
	switch first {
	case small, great:
		return next == small || next == great || next == digit
	case digit, sign:
		return next == first
	}
	return false
}
