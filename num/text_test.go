package num_test

import (
	"strconv"
	"strings"
	"testing"

	"coney/api"
	"coney/num"
)

// TestPrint is P1.4: how a number stands as a text, and that it is read back.
func TestPrint(t *testing.T) {
	for _, x := range []struct {
		a int
		s string
	}{
		{0, "0"}, {7, "7"}, {-7, "-7"}, {10, "10"}, {-100, "-100"}, {1234567890, "1234567890"},
		{most, "9223372036854775807"}, {least, "-9223372036854775808"}, {1000000000000000000, "1000000000000000000"},
	} {
		if s := num.Print(x.a); s != x.s {
			t.Errorf("Print(%d) = %q; want %q", x.a, s, x.s)
		}
		if n, e := num.Parse(x.s); n != x.a || e != api.OK {
			t.Errorf("Parse(%q) = %d, %d; want %d", x.s, n, e, x.a)
		}
	}
	for _, a := range edges() {
		s := num.Print(a)
		if s != strconv.Itoa(a) {
			t.Errorf("Print(%d) = %q", a, s)
		}
		if n, e := num.Parse(s); n != a || e != api.OK {
			t.Errorf("Parse(%q) = %d, %d", s, n, e)
		}
	}
}

// TestParseRefuses is P1.4: texts that are no number's Print.
func TestParseRefuses(t *testing.T) {
	for _, s := range []string{
		"", "-", "--1", "+1", "+", "01", "00", "-0", "-01", "-00", " 1", "1 ", "1\n", "\x001", "1-", "1-2", "1.0", "1e3", "0x10", "1_000",
		"a", "-a", "1a", "/", ":", "1/", "1:", "\xff", "1\x80", "\u0661", "\uff11", "\u22121",
		"9223372036854775808", "-9223372036854775809", "9223372036854775810", "10000000000000000000", "18446744073709551616", "-18446744073709551616", "99999999999999999999",
		"36893488147419103232", strings.Repeat("9", 4000), strings.Repeat("0", 4000), strings.Repeat("0", 4000) + "1", strings.Repeat("-", 4000),
	} {
		if n, e := num.Parse(s); n != 0 || e != api.ErrNumber {
			t.Errorf("Parse(%q) = %d, %d; want 0, ErrNumber", s, n, e)
		}
	}
}

// TestParseShortTexts is P1.4: of all short texts of these bytes just those are numbers that strconv writes likewise.
func TestParseShortTexts(t *testing.T) {
	texts := []string{""}
	for range 4 {
		for _, s := range texts {
			for _, c := range "-+019 a" {
				texts = append(texts, s+string(c))
			}
		}
	}
	for _, s := range texts {
		want, wrong := strconv.Atoi(s)
		e := api.OK
		if wrong != nil || strconv.Itoa(want) != s {
			want, e = 0, api.ErrNumber
		}
		if n, gotE := num.Parse(s); n != want || gotE != e {
			t.Errorf("Parse(%q) = %d, %d; want %d, %d", s, n, gotE, want, e)
		}
	}
}
