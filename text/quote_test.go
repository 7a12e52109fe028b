package text

import (
	"fmt"
	"strings"
	"testing"

	"graticule/api"
)

// formOf tells the form of a rune between the quotes, by the words' own
// definition.
func formOf(n int) string {
	switch n {
	case 92:
		return "\\\\"
	case 34:
		return "\\\""
	case 10:
		return "\\n"
	case 9:
		return "\\t"
	}
	if n < 32 || n == 127 {
		return fmt.Sprintf("\\x%02x", n)
	}
	return encoded(n)
}

// formed tells a text's quoted form.
func formed(s string) (string, api.Errno) {
	l, ok := decoded(s)
	if !ok {
		return "", api.ErrText
	}
	form := "\""
	for _, b := range l {
		n, _, _ := firstRune(b)
		form += formOf(n)
	}
	return form + "\"", api.OK
}

// reading is what Unquote answers.
type reading struct {
	text string
	size int
	err  api.Errno
}

func unquote(s string) reading {
	text, size, err := Unquote(s)
	return reading{text, size, err}
}

// expected tells what Unquote promises of s, place by place, and at each place
// in the chapter's order.
func expected(s string) reading {
	if s == "" {
		return reading{err: api.ErrEnd}
	}
	if s[:1] != "\"" {
		return reading{err: api.ErrForm}
	}
	text := ""
	for rest := s[1:]; ; {
		if rest == "" {
			return reading{err: api.ErrEnd}
		}
		if rest[:1] == "\"" {
			return reading{text, len(s) - len(rest) + 1, api.OK}
		}
		n, b, ok := firstRune(rest)
		if !ok {
			return reading{err: api.ErrText}
		}
		if n < 32 || n == 127 {
			return reading{err: api.ErrForm}
		}
		form := b
		if b == "\\" {
			var err api.Errno
			if n, form, err = bent(rest); err != api.OK {
				return reading{err: err}
			}
		}
		text, rest = text+encoded(n), rest[len(form):]
	}
}

// bent tells which rune a \ and what is behind it stand for.
func bent(s string) (int, string, api.Errno) {
	if len(s) == 1 {
		return 0, "", api.ErrEnd
	}
	size := 2
	if s[1] == 'x' {
		for ; size < 4; size++ {
			if len(s) == size {
				return 0, "", api.ErrEnd
			}
			if !strings.Contains("0123456789abcdef", s[size:size+1]) {
				return 0, "", api.ErrForm
			}
		}
	}
	for n := range 128 {
		if formOf(n) == s[:size] {
			return n, s[:size], api.OK
		}
	}
	return 0, "", api.ErrForm
}

// checkUnquote holds Unquote against the promise, and what it read against its
// form.
func checkUnquote(t *testing.T, s string) {
	t.Helper()
	got, want := unquote(s), expected(s)
	if got != want {
		t.Fatalf("unquote %q %v %v", s, got, want)
	}
	if got.err != api.OK {
		return
	}
	if form, err := Quote(got.text); form != s[:got.size] || err != api.OK {
		t.Fatalf("quoted anew %q %v %q %d", s, got, form, err)
	}
}

// checkQuote holds Quote against the definition, and reads what it told, with
// anything behind it, and cut off anywhere.
func checkQuote(t *testing.T, s string) {
	t.Helper()
	want, e := formed(s)
	form, err := Quote(s)
	if form != want || err != e {
		t.Fatalf("quote %q %q %d", s, form, err)
	}
	if err != api.OK {
		return
	}
	for _, rest := range []string{"", " ", "\"", "\xff", "\\", "a\x00"} {
		if got := unquote(form + rest); got != (reading{s, len(form), api.OK}) {
			t.Fatalf("unquote %q %q %v", form, rest, got)
		}
	}
	for end := range len(form) {
		checkUnquote(t, form[:end])
	}
}

// P9.2: Quote

func TestQuote(t *testing.T) {
	rows := []struct {
		s, want string
	}{
		{"", `""`},
		{"a", `"a"`},
		{"a\"b\n", `"a\"b\n"`},
		{"\\", `"\\"`},
		{"\\n", `"\\n"`},
		{"\t", `"\t"`},
		{"\r", `"\x0d"`},
		{"\x00", `"\x00"`},
		{"\x01\x1f", `"\x01\x1f"`},
		{"\x08\x0b", `"\x08\x0b"`},
		{" ~", `" ~"`},
		{"\x7f", `"\x7f"`},
		{"\xc2\x80\xc2\x9f\xc2\xa0", "\"\xc2\x80\xc2\x9f\xc2\xa0\""},
		{"\xe2\x80\xa8\xef\xbb\xbf\xef\xbf\xbd", "\"\xe2\x80\xa8\xef\xbb\xbf\xef\xbf\xbd\""},
		{"\xf4\x8f\xbf\xbf", "\"\xf4\x8f\xbf\xbf\""},
		{"'", `"'"`},
	}
	for _, r := range rows {
		if got, err := Quote(r.s); got != r.want || err != api.OK {
			t.Errorf("%q %q %d", r.s, got, err)
		}
	}
	for _, s := range []string{"\xff", "a\xc3", "\xed\xa0\x80", "\xc0\x80", "\n\xf4\x90\x80\x80", "abc\x80d"} {
		if got, err := Quote(s); got != "" || err != api.ErrText {
			t.Errorf("%q %q %d", s, got, err)
		}
	}
}

func TestQuoteOfAllShort(t *testing.T) {
	texts(everyByte(), 2, func(s string) { checkQuote(t, s) })
	parts := append(bytesOf("a\"\\nx0 \n\t\r\x00"), "\x7f", "\xc3\xa9", "\xe2\x82\xac", "\xff")
	texts(parts, 4, func(s string) { checkQuote(t, s) })
}

func TestQuoteOfEachRune(t *testing.T) {
	for n := range lastRune + 1 {
		if !allowed(n) {
			continue
		}
		s := encoded(n)
		form, err := Quote("a" + s)
		if form != "\"a"+formOf(n)+"\"" || err != api.OK {
			t.Fatalf("%x %q %d", n, form, err)
		}
		if got := unquote(form + "b"); got != (reading{"a" + s, len(form), api.OK}) {
			t.Fatalf("%x %v", n, got)
		}
	}
}

// P9.2: Unquote

func TestUnquote(t *testing.T) {
	rows := []struct {
		s    string
		want reading
	}{
		{`""`, reading{"", 2, api.OK}},
		{`"a"`, reading{"a", 3, api.OK}},
		{`"a"b"`, reading{"a", 3, api.OK}},
		{`"a" `, reading{"a", 3, api.OK}},
		{`"a\"b\n"`, reading{"a\"b\n", 8, api.OK}},
		{`"\\"`, reading{"\\", 4, api.OK}},
		{`"\t"`, reading{"\t", 4, api.OK}},
		{`"\x00\x1f\x7f"`, reading{"\x00\x1f\x7f", 14, api.OK}},
		{`"\x0d\x0b\x08"`, reading{"\r\v\b", 14, api.OK}},
		{`"\x1a"`, reading{"\x1a", 6, api.OK}},
		{"\"\xc3\xa9\"", reading{"\xc3\xa9", 4, api.OK}},
		{"\"\xef\xbf\xbd\"", reading{"\xef\xbf\xbd", 5, api.OK}},
		{`"x6e"`, reading{"x6e", 5, api.OK}},
	}
	for _, r := range rows {
		if got := unquote(r.s); got != r.want {
			t.Errorf("%q %v", r.s, got)
		}
	}
}

func TestUnquoteRefuses(t *testing.T) {
	rows := []struct {
		s   string
		err api.Errno
	}{
		// ahead of the closing "
		{``, api.ErrEnd},
		{`"`, api.ErrEnd},
		{`"a`, api.ErrEnd},
		{`"\"`, api.ErrEnd},
		{`"\x00`, api.ErrEnd},
		// the first byte
		{`a`, api.ErrForm},
		{` "a"`, api.ErrForm},
		{`'a'`, api.ErrForm},
		{"\xff\"", api.ErrForm},
		{"\\\"\"", api.ErrForm},
		// no rune
		{"\"\xff\"", api.ErrText},
		{"\"a\x80\"", api.ErrText},
		{"\"\xc3\"", api.ErrText},
		{"\"\xc3", api.ErrText},
		{"\"\xe2\x82", api.ErrText},
		{"\"\xed\xa0\x80\"", api.ErrText},
		{"\"\xc0\xa2\"", api.ErrText},
		{"\"\xf4\x90\x80\x80\"", api.ErrText},
		// a rune below 32, or 127
		{"\"\n\"", api.ErrForm},
		{"\"\t", api.ErrForm},
		{"\"a\x00\"", api.ErrForm},
		{"\"\x1f\"", api.ErrForm},
		{"\"\x7f", api.ErrForm},
		// a \
		{`"\`, api.ErrEnd},
		{`"a\`, api.ErrEnd},
		{`"\a"`, api.ErrForm},
		{`"\r`, api.ErrForm},
		{`"\N"`, api.ErrForm},
		{`"\X00"`, api.ErrForm},
		{`"\u0041"`, api.ErrForm},
		{`"\0"`, api.ErrForm},
		{`"\'"`, api.ErrForm},
		{`"\ "`, api.ErrForm},
		{"\"\\\xff\"", api.ErrForm},
		{"\"\\\n\"", api.ErrForm},
		// \x
		{`"\x`, api.ErrEnd},
		{`"\x0`, api.ErrEnd},
		{`"\x"`, api.ErrForm},
		{`"\x0"`, api.ErrForm},
		{`"\xg`, api.ErrForm},
		{`"\x0g"`, api.ErrForm},
		{`"\xA`, api.ErrForm},
		{`"\x0A"`, api.ErrForm},
		{`"\x1F"`, api.ErrForm},
		{`"\x7F"`, api.ErrForm},
		{`"\x1/"`, api.ErrForm},
		{`"\x1:"`, api.ErrForm},
		{"\"\\x1`\"", api.ErrForm},
		{"\"\\x\xff", api.ErrForm},
		// another form
		{`"\x0a"`, api.ErrForm},
		{`"\x09"`, api.ErrForm},
		{`"\x22"`, api.ErrForm},
		{`"\x5c"`, api.ErrForm},
		{`"\x20"`, api.ErrForm},
		{`"\x41"`, api.ErrForm},
		{`"\x7e"`, api.ErrForm},
		{`"\x80"`, api.ErrForm},
		{`"\xff"`, api.ErrForm},
		{`"\x0a`, api.ErrForm},
		// what is farther to the left
		{"\"\n\xff\"", api.ErrForm},
		{"\"\xff\n\"", api.ErrText},
		{"\"\\q\xff", api.ErrForm},
		{"\"\xff\\q", api.ErrText},
		{"\"\\x41\xff", api.ErrForm},
		{"\"a\xff", api.ErrText},
	}
	for _, r := range rows {
		if got := unquote(r.s); got != (reading{err: r.err}) {
			t.Errorf("%q %v", r.s, got)
		}
	}
}

func TestUnquoteOfAllShort(t *testing.T) {
	texts(everyByte(), 2, func(s string) {
		checkUnquote(t, s)
		checkUnquote(t, "\""+s+"\"")
		checkUnquote(t, "\"\\"+s)
		checkUnquote(t, "\"\\x"+s)
		checkUnquote(t, "\"\\x"+s+"\"")
	})
	parts := append(bytesOf("\"\\xnt07afAg \n"), "\x7f", "\xc3", "\xa9", "\xff")
	texts(parts, 4, func(s string) {
		checkUnquote(t, s)
		checkUnquote(t, "\""+s)
		checkUnquote(t, "\"b"+s+"\"")
	})
}

// P9.5

// What stands for itself stands in all ways in which it could be told.
func TestNoOtherFormIsRead(t *testing.T) {
	for n := range 256 {
		forms := []string{fmt.Sprintf("\\x%02x", n), fmt.Sprintf("\\x%02X", n), encoded(n), "\\" + encoded(n), formOf(n)}
		for _, form := range forms {
			s := "\"" + form + "\""
			checkUnquote(t, s)
			if text, _, err := Unquote(s); err == api.OK && text == encoded(n) && form != formOf(n) {
				t.Errorf("%x %q", n, form)
			}
		}
	}
}

// P1: ends

func TestGreatForms(t *testing.T) {
	s := strings.Repeat("a\n\"\x00\xe2\x82\xac", 1<<18)
	form, err := Quote(s)
	if err != api.OK || len(form) != 2+1<<18*(1+2+2+4+3) {
		t.Fatal(len(form), err)
	}
	if got := unquote(form + form); got != (reading{s, len(form), api.OK}) {
		t.Error(got.size, got.err)
	}
	if got := unquote(form[:len(form)-1]); got != (reading{err: api.ErrEnd}) {
		t.Error(got.size, got.err)
	}
	if form, err := Quote(s + "\xff"); form != "" || err != api.ErrText {
		t.Error(len(form), err)
	}
}
