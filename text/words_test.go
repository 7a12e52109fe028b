package text

import (
	"slices"
	"strings"
	"testing"

	"graticule/api"
)

// lineOf is what Words answers.
type lineOf struct {
	words []Word
	place int
	err   api.Errno
}

func words(line string) lineOf {
	l, place, err := Words(line)
	return lineOf{l, place, err}
}

func (a lineOf) is(b lineOf) bool {
	return slices.Equal(a.words, b.words) && a.place == b.place && a.err == b.err
}

// told tells what Words promises of a line, word by word, and of each word in
// the chapter's order.
func told(line string) lineOf {
	var l []Word
	if line == "" {
		return lineOf{}
	}
	for place := 0; ; place++ {
		w, size, err := toldWord(line[place:])
		if err != api.OK {
			return lineOf{nil, place, err}
		}
		l = append(l, w)
		place += size
		if place == len(line) {
			return lineOf{words: l}
		}
	}
}

// toldWord tells what the word at the beginning of s is, and how many bytes it
// has.
func toldWord(s string) (Word, int, api.Errno) {
	if s != "" && s[0] == '"' {
		a := expected(s)
		if a.err != api.OK {
			return Word{}, 0, a.err
		}
		if rest := s[a.size:]; rest != "" && rest[0] != ' ' {
			return Word{}, 0, api.ErrForm
		}
		return Word{a.text, true}, a.size, api.OK
	}
	bare := strings.Split(s, " ")[0]
	if len(bare) == 0 {
		return Word{}, 0, api.ErrForm
	}
	if strings.Count(bare, "\"") > 0 {
		return Word{}, 0, api.ErrForm
	}
	if _, ok := decoded(bare); !ok {
		return Word{}, 0, api.ErrText
	}
	return Word{bare, false}, len(bare), api.OK
}

// joined tells the line of words, each by its form.
func joined(l []Word) string {
	var forms []string
	for _, w := range l {
		form := w.Text
		if w.Quoted {
			form, _ = formed(w.Text)
		}
		forms = append(forms, form)
	}
	return strings.Join(forms, " ")
}

// checkWords holds Words against the promise, and the words against the line.
func checkWords(t *testing.T, line string) {
	t.Helper()
	got, want := words(line), told(line)
	if !got.is(want) {
		t.Fatalf("%q %v %v", line, got, want)
	}
	if got.err != api.OK && got.words != nil {
		t.Fatalf("beside an error %q %v", line, got)
	}
	if got.err == api.OK && joined(got.words) != line {
		t.Fatalf("joined %q %v", line, got)
	}
}

// P9.3

func TestWords(t *testing.T) {
	bare := func(s string) Word { return Word{Text: s} }
	form := func(s string) Word { return Word{s, true} }
	rows := []struct {
		line string
		want []Word
	}{
		{"", nil},
		{"a", []Word{bare("a")}},
		{"a b", []Word{bare("a"), bare("b")}},
		{`face "x y" 3`, []Word{bare("face"), form("x y"), bare("3")}},
		{`""`, []Word{form("")}},
		{`"" ""`, []Word{form(""), form("")}},
		{`"a" b`, []Word{form("a"), bare("b")}},
		{`"a  b"`, []Word{form("a  b")}},
		{`" "`, []Word{form(" ")}},
		{`a "b\" c" d`, []Word{bare("a"), form(`b" c`), bare("d")}},
		{"\\ \\x", []Word{bare("\\"), bare("\\x")}},
		{"a\tb\nc d", []Word{bare("a\tb\nc"), bare("d")}},
		{"\x00 \x7f", []Word{bare("\x00"), bare("\x7f")}},
		{"\xc3\xa9 \xe2\x82\xac", []Word{bare("\xc3\xa9"), bare("\xe2\x82\xac")}},
		{"a\xc2\xa0b", []Word{bare("a\xc2\xa0b")}},
		{"\xef\xbf\xbd", []Word{bare("\xef\xbf\xbd")}},
		{"a'b", []Word{bare("a'b")}},
	}
	for _, r := range rows {
		if got := words(r.line); !got.is(lineOf{words: r.want}) {
			t.Errorf("%q %v", r.line, got)
		}
	}
}

func TestWordsRefuse(t *testing.T) {
	rows := []struct {
		line  string
		place int
		err   api.Errno
	}{
		// no bytes
		{"a  b", 2, api.ErrForm},
		{" ", 0, api.ErrForm},
		{" a", 0, api.ErrForm},
		{"a ", 2, api.ErrForm},
		{"a b ", 4, api.ErrForm},
		{"\"a\" ", 4, api.ErrForm},
		{"\"a\"  b", 4, api.ErrForm},
		{"\xc3\xa9  b", 3, api.ErrForm},
		// a "
		{`a"`, 0, api.ErrForm},
		{`a"b"`, 0, api.ErrForm},
		{`a b"c d"`, 2, api.ErrForm},
		{"\\\"", 0, api.ErrForm},
		// a " ahead of what isn't right
		{"\xff\"", 0, api.ErrForm},
		{"a\xff b", 0, api.ErrText},
		{"a b\xff", 2, api.ErrText},
		{"a \xff b\"", 2, api.ErrText},
		{"a \xc3 \xa9", 2, api.ErrText},
		{"\xed\xa0\x80", 0, api.ErrText},
		// Unquote's
		{`"`, 0, api.ErrEnd},
		{`a "b c`, 2, api.ErrEnd},
		{`a "b\`, 2, api.ErrEnd},
		{`a "b \q"`, 2, api.ErrForm},
		{"a \"b\n\"", 2, api.ErrForm},
		{"a b \"c d\xff\"", 4, api.ErrText},
		{`a "\x41"`, 2, api.ErrForm},
		// behind its "
		{`"a"b`, 0, api.ErrForm},
		{`a "b""c"`, 2, api.ErrForm},
		{`"""`, 0, api.ErrForm},
		{"\"a\"\xff", 0, api.ErrForm},
		{"\"a\"\t", 0, api.ErrForm},
		{"a \"\xc3\xa9\"\"", 2, api.ErrForm},
		// the first word that has one
		{"a\xff  \"", 0, api.ErrText},
		{"a  \"b", 2, api.ErrForm},
	}
	for _, r := range rows {
		if got := words(r.line); !got.is(lineOf{nil, r.place, r.err}) || got.words != nil {
			t.Errorf("%q %v", r.line, got)
		}
	}
}

func TestWordsOfAllShort(t *testing.T) {
	texts(everyByte(), 2, func(s string) {
		checkWords(t, s)
		checkWords(t, "a "+s)
		checkWords(t, s+" a")
		checkWords(t, "\"a\""+s)
	})
	parts := append(bytesOf("a \"\\x\n"), "\xc3", "\xa9", "\xff")
	texts(parts, 5, func(s string) { checkWords(t, s) })
}

// Lines of parts that are words, and of parts that aren't, behind blanks and
// nothing.
func TestWordsOfParts(t *testing.T) {
	parts := []string{" ", "a", "-3", "\"x y\"", "\"\"", "\"\\\"\"", "\"", "\\", "\xe2\x82\xac", "\"\xe2\x82\xac\\x00\"", "\xff", "\"\\x0a\""}
	texts(parts, 5, func(s string) { checkWords(t, s) })
}

// P9.5

func TestWordsAreReadAsTheyWere(t *testing.T) {
	some := []Word{{"a", false}, {"\xc3\xa9\n", false}, {"\\\\", false}, {"", true}, {" ", true}, {"a b", true},
		{"\"", true}, {"\\", true}, {"\x00\x7f\t\r\n", true}, {"\xf4\x8f\xbf\xbf  ", true}}
	var add func(l []Word)
	add = func(l []Word) {
		if got := words(joined(l)); !got.is(lineOf{words: l}) {
			t.Fatalf("%q %v", joined(l), got)
		}
		for _, w := range some {
			if len(l) < 4 {
				add(append(l[:len(l):len(l)], w))
			}
		}
	}
	add(nil)
}

// P1: ends, memory

func TestGreatLines(t *testing.T) {
	line := strings.Repeat("a \"b c\" ", 1<<18)
	if got := words(line); !got.is(lineOf{nil, len(line), api.ErrForm}) {
		t.Error(got.place, got.err)
	}
	got := words(line[:len(line)-1])
	if len(got.words) != 1<<19 || got.words[1<<19-1] != (Word{"b c", true}) || got.place != 0 || got.err != api.OK {
		t.Error(len(got.words), got.place, got.err)
	}
	if got := words(line + "\"" + line); got.err != api.ErrForm || got.place != len(line) || got.words != nil {
		t.Error(len(got.words), got.place, got.err)
	}
	blanks := strings.Repeat(" ", 1<<20)
	if got := words(blanks); !got.is(lineOf{nil, 0, api.ErrForm}) {
		t.Error(got.place, got.err)
	}
}

func TestWordsShareNothing(t *testing.T) {
	one, other := words("a \"b\" c"), words("a \"b\" c")
	one.words[0] = Word{"z", true}
	one.words = append(one.words[:1], Word{}, Word{}, Word{})
	if !other.is(told("a \"b\" c")) {
		t.Error(other)
	}
}
