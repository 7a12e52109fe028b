package text

import (
	"math"
	"math/big"
	"regexp"
	"strings"
	"testing"

	"graticule/api"
)

var needful = regexp.MustCompile(`^(0|-?[1-9][0-9]*)$`)

// expectedNumber tells what Number promises, by numbers of any length.
func expectedNumber(s string) (int, api.Errno) {
	if !needful.MatchString(s) {
		return 0, api.ErrForm
	}
	n, ok := new(big.Int).SetString(s, 10)
	if !ok {
		panic("digits are no number")
	}
	if n.CmpAbs(big.NewInt(1<<60)) > 0 {
		return 0, api.ErrRange
	}
	return int(n.Int64()), api.OK
}

func checkNumber(t *testing.T, s string) {
	t.Helper()
	n, err := Number(s)
	want, e := expectedNumber(s)
	if n != want || err != e {
		t.Fatalf("%q %d %d, not %d %d", s, n, err, want, e)
	}
	if err == api.OK && Digits(n) != s {
		t.Fatalf("told anew %q %q", s, Digits(n))
	}
}

// P9.4: Number

func TestNumber(t *testing.T) {
	rows := []struct {
		s   string
		n   int
		err api.Errno
	}{
		{"0", 0, api.OK},
		{"7", 7, api.OK},
		{"-7", -7, api.OK},
		{"10", 10, api.OK},
		{"-10", -10, api.OK},
		{"1152921504606846976", 1 << 60, api.OK},
		{"-1152921504606846976", -1 << 60, api.OK},
		{"1152921504606846975", 1<<60 - 1, api.OK},
		{"1152921504606846977", 0, api.ErrRange},
		{"-1152921504606846977", 0, api.ErrRange},
		{"9223372036854775807", 0, api.ErrRange},
		{"9223372036854775808", 0, api.ErrRange},
		{"-9223372036854775808", 0, api.ErrRange},
		{"-9223372036854775809", 0, api.ErrRange},
		{"18446744073709551616", 0, api.ErrRange},
		{"18446744073709551617", 0, api.ErrRange},
		{"100000000000000000000000000000000000000000", 0, api.ErrRange},
		{"-99999999999999999999", 0, api.ErrRange},
		{"", 0, api.ErrForm},
		{"-", 0, api.ErrForm},
		{"--1", 0, api.ErrForm},
		{"-0", 0, api.ErrForm},
		{"00", 0, api.ErrForm},
		{"01", 0, api.ErrForm},
		{"-01", 0, api.ErrForm},
		{"+1", 0, api.ErrForm},
		{"-+1", 0, api.ErrForm},
		{"1-", 0, api.ErrForm},
		{"1_0", 0, api.ErrForm},
		{"1.", 0, api.ErrForm},
		{"1e3", 0, api.ErrForm},
		{"0x1", 0, api.ErrForm},
		{" 1", 0, api.ErrForm},
		{"1 ", 0, api.ErrForm},
		{"1\n", 0, api.ErrForm},
		{"a", 0, api.ErrForm},
		{"1/", 0, api.ErrForm},
		{"1:", 0, api.ErrForm},
		{"\xd9\xa1", 0, api.ErrForm},
		{"1\xff", 0, api.ErrForm},
		{"1\x00", 0, api.ErrForm},
		// no digits, ahead of the bounds
		{"99999999999999999999999x", 0, api.ErrForm},
		{"99999999999999999999999-", 0, api.ErrForm},
		{"099999999999999999999999", 0, api.ErrForm},
		{"-099999999999999999999999", 0, api.ErrForm},
	}
	for _, r := range rows {
		if n, err := Number(r.s); n != r.n || err != r.err {
			t.Errorf("%q %d %d", r.s, n, err)
		}
	}
}

func TestNumbersOfAllShort(t *testing.T) {
	texts(everyByte(), 2, func(s string) {
		checkNumber(t, s)
		checkNumber(t, "-"+s)
		checkNumber(t, "1"+s)
		checkNumber(t, "99999999999999999999"+s)
	})
	parts := append(bytesOf("-+0129 ._ex\n"), "\xff", "\xd9\xa1")
	texts(parts, 4, func(s string) { checkNumber(t, s) })
	texts(bytesOf("-0123456789"), 4, func(s string) { checkNumber(t, s) })
}

// Numbers stand near all bounds of words, and near 2^60, of both signs.
func TestNumbersNearBounds(t *testing.T) {
	for shift := range 130 {
		for off := int64(-40); off <= 40; off++ {
			n := new(big.Int).Lsh(big.NewInt(1), uint(shift))
			n.Add(n, big.NewInt(off))
			for _, digits := range []string{n.String(), new(big.Int).Neg(n).String()} {
				checkNumber(t, digits)
				checkNumber(t, digits+"0")
				checkNumber(t, "0"+digits)
				checkNumber(t, "-"+digits)
				checkNumber(t, digits+" ")
			}
		}
	}
	for size := range 60 {
		for _, digit := range bytesOf("0123456789") {
			checkNumber(t, strings.Repeat(digit, size))
			checkNumber(t, "-"+strings.Repeat(digit, size))
			checkNumber(t, "1"+strings.Repeat("0", size)+digit)
		}
	}
}

// P9.4: Digits

func TestDigits(t *testing.T) {
	rows := []struct {
		n    int
		want string
	}{
		{0, "0"}, {7, "7"}, {-7, "-7"}, {10, "10"}, {-100, "-100"},
		{1 << 60, "1152921504606846976"}, {-1 << 60, "-1152921504606846976"},
		{math.MaxInt, "9223372036854775807"}, {math.MinInt, "-9223372036854775808"},
	}
	for _, r := range rows {
		if got := Digits(r.n); got != r.want {
			t.Error(r, got)
		}
	}
}

// P9.5

func TestWhatIsToldInDigitsIsRead(t *testing.T) {
	check := func(n int) {
		digits := Digits(n)
		if big.NewInt(int64(n)).String() != digits {
			t.Fatal(n, digits)
		}
		got, err := Number(digits)
		if n < -1<<60 || n > 1<<60 {
			if got != 0 || err != api.ErrRange {
				t.Fatal(n, got, err)
			}
		} else if got != n || err != api.OK {
			t.Fatal(n, got, err)
		}
	}
	for n := -20000; n <= 20000; n++ {
		check(n)
		check(1<<60 + n)
		check(-1<<60 + n)
	}
	for shift := range 64 {
		for off := -3; off <= 3; off++ {
			check(1<<shift + off)
			check(-1<<shift + off)
		}
	}
}

// P1: ends

func TestGreatDigits(t *testing.T) {
	s := strings.Repeat("1234567890", 1<<18)
	for _, r := range []struct {
		s   string
		err api.Errno
	}{{s, api.ErrRange}, {"-" + s, api.ErrRange}, {s + "x", api.ErrForm}, {"0" + s, api.ErrForm}, {strings.Repeat("0", 1<<20), api.ErrForm}} {
		if n, err := Number(r.s); n != 0 || err != r.err {
			t.Error(len(r.s), n, err)
		}
	}
}
