package text

import (
	"strings"
	"unicode/utf8"

	"graticule/api"
)

const (
	quote = '"'
	slash = '\\'
	// hex has the digits to sixteen, at their places.
	hex = "0123456789abcdef"
)

// Quote answers a text's quoted form.
func Quote(s string) (string, api.Errno) {
	if !Right(s) {
		return "", api.ErrText
	}
	form := make([]byte, 0, len(s)+2)
	tell := func(r rune) {
		switch {
		case r == quote || r == slash:
			form = append(form, slash, byte(r))
		case r == '\n':
			form = append(form, slash, 'n')
		case r == '\t':
			form = append(form, slash, 't')
		case control(r):
			form = append(form, slash, 'x', hex[r/16], hex[r%16])
		default:
			form = utf8.AppendRune(form, r)
		}
	}
	form = append(form, quote)
	for _, r := range s {
		tell(r)
	}
	return string(append(form, quote)), api.OK
}

// Unquote answers the text whose quoted form s begins with, and how many bytes
// that form has.
func Unquote(s string) (string, int, api.Errno) {
	switch {
	case s == "":
		return "", 0, api.ErrEnd
	case s[0] != quote:
		return "", 0, api.ErrForm
	}
	var text []byte
	place := 1
next:
	if strings.HasPrefix(s[place:], `"`) {
		return string(text), place + 1, api.OK
	}
	r, size, err := inner(s[place:])
	if err != api.OK {
		return "", 0, err
	}
	text, place = utf8.AppendRune(text, r), place+size
	goto next
}

// inner answers the rune whose form, between quotes, s begins with, and how
// many bytes that has.
func inner(s string) (rune, int, api.Errno) {
	r, size := utf8.DecodeRuneInString(s)
	switch {
	case size == 0:
		return 0, 0, api.ErrEnd
	case r == utf8.RuneError && size == 1:
		// of more bytes, it is that rune itself.
		return 0, 0, api.ErrText
	case control(r):
		return 0, 0, api.ErrForm
	case r == slash:
		return slashed(s)
	}
	return r, size, api.OK
}

// slashed does as inner, of what begins with a \.
func slashed(s string) (rune, int, api.Errno) {
	if len(s) < 2 {
		return 0, 0, api.ErrEnd
	}
	switch s[1] {
	case slash, quote:
		return rune(s[1]), 2, api.OK
	case 'n':
		return '\n', 2, api.OK
	case 't':
		return '\t', 2, api.OK
	case 'x':
		return byDigits(s)
	}
	return 0, 0, api.ErrForm
}

// byDigits does as inner, of what begins with \x.
func byDigits(s string) (rune, int, api.Errno) {
	var r rune
	for place := 2; place < 4; place++ {
		if place == len(s) {
			return 0, 0, api.ErrEnd
		}
		digit := strings.IndexByte(hex, s[place])
		if digit < 0 {
			return 0, 0, api.ErrForm
		}
		r = 16*r + rune(digit)
	}
	if !control(r) || r == '\n' || r == '\t' {
		// it has another form.
		return 0, 0, api.ErrForm
	}
	return r, 4, api.OK
}

// control tells whether a rune is one of those that a letter or digits stand
// for.
func control(r rune) bool {
	return r < ' ' || r == 127
}
