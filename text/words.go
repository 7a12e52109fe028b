package text

import (
	"strings"

	"graticule/api"
)

// Word is a word, and whether it was quoted.
type Word struct {
	Text   string
	Quoted bool
}

// Words answers the words of a line; if one has an error, its place instead.
func Words(line string) ([]Word, int, api.Errno) {
	if line == "" {
		return nil, 0, api.OK
	}
	var l []Word
	place := 0
next:
	w, size, err := word(line[place:])
	if err != api.OK {
		return nil, place, err
	}
	l, place = append(l, w), place+size
	if place < len(line) {
		// a blank ends the word, and behind it there is one more.
		place++
		goto next
	}
	return l, 0, api.OK
}

// word answers the word that s begins with, and how many bytes it has there:
// behind these comes a blank, or the end.
func word(s string) (Word, int, api.Errno) {
	if strings.HasPrefix(s, `"`) {
		return quoted(s)
	}
	bare, _, _ := strings.Cut(s, " ")
	switch {
	case bare == "" || strings.Contains(bare, `"`):
		return Word{}, 0, api.ErrForm
	case !Right(bare):
		return Word{}, 0, api.ErrText
	}
	return Word{Text: own(bare)}, len(bare), api.OK
}

// quoted does as word, of what begins with ".
func quoted(s string) (Word, int, api.Errno) {
	text, size, err := Unquote(s)
	switch {
	case err != api.OK:
		return Word{}, 0, err
	case size < len(s) && s[size] != ' ':
		return Word{}, 0, api.ErrForm
	}
	return Word{Text: text, Quoted: true}, size, api.OK
}
