package text

import (
	"strings"
	"testing"
)

const lastRune = 0x10ffff

// encoded tells the bytes of a number as UTF-8 has them, as few as can be.
func encoded(n int) string {
	on := func(shift int) byte { return byte(128 + n>>shift%64) }
	switch {
	case n < 1<<7:
		return string([]byte{byte(n)})
	case n < 1<<11:
		return string([]byte{byte(192 + n>>6), on(0)})
	case n < 1<<16:
		return string([]byte{byte(224 + n>>12), on(6), on(0)})
	}
	return string([]byte{byte(240 + n>>18), on(12), on(6), on(0)})
}

// allowed tells whether a number is a rune.
func allowed(n int) bool {
	return n >= 0 && n <= lastRune && (n < 0xd800 || n > 0xdfff)
}

// firstRune tells the rune that s begins with, and its bytes: what the lowest
// bits of one to four bytes make is held against its own bytes.
func firstRune(s string) (int, string, bool) {
	lead := []int{128, 32, 16, 8}
	for size := 1; size <= 4 && size <= len(s); size++ {
		n := int(s[0]) % lead[size-1]
		for i := 1; i < size; i++ {
			n = 64*n + int(s[i])%64
		}
		if allowed(n) && encoded(n) == s[:size] {
			return n, s[:size], true
		}
	}
	return 0, "", false
}

// decoded tells the runes of a text, each by its bytes, and whether it is right.
func decoded(s string) ([]string, bool) {
	var l []string
	for s != "" {
		_, b, ok := firstRune(s)
		if !ok {
			return nil, false
		}
		l, s = append(l, b), s[len(b):]
	}
	return l, true
}

// named tells whether a text is a name, by the words' own definition.
func named(s string) bool {
	const letters = "abcdefghijklmnopqrstuvwxyzABCDEFGHIJKLMNOPQRSTUVWXYZ"
	l, ok := decoded(s)
	if !ok || len(l) < 1 || len(l) > 32 {
		return false
	}
	for _, b := range l {
		if len(b) == 1 && !strings.Contains(letters+"0123456789_-.", b) {
			return false
		}
	}
	return !strings.Contains("0123456789-.", l[0])
}

// checkText holds Right, Count, Name and Cut against the definitions.
func checkText(t *testing.T, s string) {
	t.Helper()
	l, ok := decoded(s)
	if Right(s) != ok {
		t.Fatalf("right %q %v", s, ok)
	}
	if n, right := Count(s); n != len(l) || right != ok {
		t.Fatalf("count %q %d %v", s, n, right)
	}
	if Name(s) != named(s) {
		t.Fatalf("name %q %v", s, named(s))
	}
	for n := -1; n <= len(l)+1; n++ {
		want := strings.Join(l[:max(0, min(n, len(l)))], "")
		if got := Cut(s, n); got != want {
			t.Fatalf("cut %q %d %q", s, n, got)
		}
	}
}

// texts gives all texts of up to n of these parts, each to be used at once.
func texts(of []string, n int, use func(s string)) {
	use("")
	if n == 0 {
		return
	}
	for _, part := range of {
		texts(of, n-1, func(s string) { use(part + s) })
	}
}

func bytesOf(s string) []string { return strings.Split(s, "") }

// edgeBytes are bytes at which UTF-8's shapes end or begin.
func edgeBytes() []string {
	var l []string
	for _, b := range []byte{0, 'a', 0x7f, 0x80, 0x8f, 0x90, 0x9f, 0xa0, 0xbf, 0xc0, 0xc1, 0xc2, 0xdf,
		0xe0, 0xe1, 0xec, 0xed, 0xee, 0xef, 0xf0, 0xf1, 0xf3, 0xf4, 0xf5, 0xf7, 0xf8, 0xfc, 0xfe, 0xff} {
		l = append(l, string([]byte{b}))
	}
	return l
}

func everyByte() []string {
	var l []string
	for b := range 256 {
		l = append(l, string([]byte{byte(b)}))
	}
	return l
}

// P9.1: Right

func TestRight(t *testing.T) {
	rows := []struct {
		s    string
		want bool
	}{
		{"", true},
		{"a", true},
		{"\x00", true},
		{"\x7f", true},
		{"\x80", false},
		{"\xbf", false},
		{"\xc2\x80", true},
		{"\xc2", false},
		{"\xc2a", false},
		{"\xc0\x80", false},
		{"\xc1\xbf", false},
		{"\xdf\xbf", true},
		{"\xe0\x9f\xbf", false},
		{"\xe0\xa0\x80", true},
		{"\xe2\x82\xac", true},
		{"\xe2\x82", false},
		{"\xed\x9f\xbf", true},
		{"\xed\xa0\x80", false},
		{"\xed\xbf\xbf", false},
		{"\xee\x80\x80", true},
		{"\xef\xbf\xbd", true},
		{"\xef\xbf\xbf", true},
		{"\xf0\x8f\xbf\xbf", false},
		{"\xf0\x90\x80\x80", true},
		{"\xf4\x8f\xbf\xbf", true},
		{"\xf4\x90\x80\x80", false},
		{"\xf7\xbf\xbf\xbf", false},
		{"\xf8\x88\x80\x80\x80", false},
		{"\xfe", false},
		{"\xff", false},
		{"a\xffb", false},
		{"abc\xe2\x82\xac\xe2\x82", false},
	}
	for _, r := range rows {
		if got := Right(r.s); got != r.want {
			t.Errorf("%q %v", r.s, got)
		}
	}
}

func TestTextsOfAllShort(t *testing.T) {
	texts(everyByte(), 2, func(s string) { checkText(t, s) })
	texts(edgeBytes(), 4, func(s string) { checkText(t, s) })
}

// Each number that four bytes could have stands alone, and in a text.
func TestTextsOfEachRune(t *testing.T) {
	for n := range 1 << 21 {
		b := encoded(n)
		count, ok := Count(b)
		if ok != allowed(n) || ok != Right(b) || ok != (count == 1) {
			t.Fatalf("%x %d %v", n, count, ok)
		}
		if Name(b) != named(b) || Name("a"+b) != named("a"+b) {
			t.Fatalf("name %x", n)
		}
		if s := Cut(b+"ab", 2); ok && s != b+"a" || !ok && s != "" {
			t.Fatalf("cut %x %q", n, s)
		}
	}
}

// P9.1: Count

func TestCount(t *testing.T) {
	rows := []struct {
		s    string
		want int
		ok   bool
	}{
		{"", 0, true},
		{"abc", 3, true},
		{"\xc3\xa9", 1, true},
		{"a\xe2\x82\xacb", 3, true},
		{"\xf0\x90\x80\x80\x00", 2, true},
		{"e\xcc\x81", 2, true},
		{"\xef\xbf\xbd", 1, true},
		{"\xff", 0, false},
		{"abc\xc3", 0, false},
		{strings.Repeat("\xc3\xa9", 100), 100, true},
	}
	for _, r := range rows {
		if n, ok := Count(r.s); n != r.want || ok != r.ok {
			t.Errorf("%q %d %v", r.s, n, ok)
		}
	}
}

// P9.1: Cut

func TestCut(t *testing.T) {
	const least, most = -1 << 63, 1<<63 - 1
	rows := []struct {
		s     string
		runes int
		want  string
	}{
		{"abc", 2, "ab"},
		{"abc", 3, "abc"},
		{"abc", 4, "abc"},
		{"abc", most, "abc"},
		{"abc", 1, "a"},
		{"abc", 0, ""},
		{"abc", -1, ""},
		{"abc", least, ""},
		{"", 0, ""},
		{"", 1, ""},
		{"", least, ""},
		{"\xe2\x82\xac\xc3\xa9a", 1, "\xe2\x82\xac"},
		{"\xe2\x82\xac\xc3\xa9a", 2, "\xe2\x82\xac\xc3\xa9"},
		{"\xef\xbf\xbdab", 2, "\xef\xbf\xbda"},
		{"ab\xff", 1, ""},
		{"ab\xff", 2, ""},
		{"ab\xff", 3, ""},
		{"\xff", 0, ""},
	}
	for _, r := range rows {
		if got := Cut(r.s, r.runes); got != r.want {
			t.Errorf("%q %d %q", r.s, r.runes, got)
		}
	}
}

// P9.1: Name

func TestName(t *testing.T) {
	rows := []struct {
		s    string
		want bool
	}{
		{"", false},
		{"a", true},
		{"z", true},
		{"A", true},
		{"Z", true},
		{"_", true},
		{"0", false},
		{"9", false},
		{"-", false},
		{".", false},
		{"a0", true},
		{"a9", true},
		{"a-", true},
		{"a.", true},
		{"_-.", true},
		{"a b", false},
		{"a\"", false},
		{"a/", false},
		{"a:", false},
		{"a@", false},
		{"a[", false},
		{"a`", false},
		{"a{", false},
		{"@", false},
		{"[", false},
		{"`", false},
		{"{", false},
		{"a\n", false},
		{"a\x00", false},
		{"a\x7f", false},
		{"\xc2\x80", true},
		{"a\xc2\x80", true},
		{"\xc3\xa9t\xc3\xa9", true},
		{"\xf4\x8f\xbf\xbf", true},
		{"\xef\xbf\xbd", true},
		{"\xff", false},
		{"a\xff", false},
		{"a\xed\xa0\x80", false},
		{strings.Repeat("a", 32), true},
		{strings.Repeat("a", 33), false},
		{strings.Repeat("\xe2\x82\xac", 32), true},
		{strings.Repeat("\xe2\x82\xac", 33), false},
		{strings.Repeat("\xf4\x8f\xbf\xbf", 31) + "9", true},
	}
	for _, r := range rows {
		if got := Name(r.s); got != r.want {
			t.Errorf("%q %v", r.s, got)
		}
	}
}

func TestNamesOfAllShort(t *testing.T) {
	parts := append(bytesOf("azAZ09_-. /:@[`{\"\n"), "\x7f", "\xc2\x80", "\xe2\x82\xac", "\xff", "\xc3")
	texts(parts, 4, func(s string) { checkText(t, s) })
	for n := range 40 {
		for _, part := range parts {
			checkText(t, strings.Repeat("b", n)+part)
			checkText(t, part+strings.Repeat("b", n))
			checkText(t, strings.Repeat(part, n))
		}
	}
}

// P1: ends

func TestGreatTexts(t *testing.T) {
	s := strings.Repeat("a\xe2\x82\xac", 1<<20)
	if n, ok := Count(s); n != 1<<21 || !ok {
		t.Error(n, ok)
	}
	if Name(s) || Cut(s, 1<<21) != s || Cut(s, 1<<21-1) != s[:len(s)-3] {
		t.Error("great")
	}
	if n, ok := Count(s + "\xff"); n != 0 || ok || Cut(s+"\xff", 1) != "" {
		t.Error("great and wrong")
	}
}
