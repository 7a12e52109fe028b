package proto

import (
	"iter"

	"graticule/api"
	"graticule/varint"
)

// part is a field at its place in a message, or the error that is there.
type part struct {
	field Field
	place int
	err   api.Errno
}

// Read answers the field that b begins with, and how many bytes it has.
func Read(b []byte) (Field, int, api.Errno) {
	f, size, err := look(b)
	return own(f), size, err
}

// Skip answers how many bytes the field that b begins with has.
func Skip(b []byte) (int, api.Errno) {
	_, size, err := look(b)
	return size, err
}

// All answers all fields of b; if one has an error, its place in b instead.
func All(b []byte) ([]Field, int, api.Errno) {
	var l []Field
	for p := range parts(b) {
		if p.err != api.OK {
			return nil, p.place, p.err
		}
		l = append(l, own(p.field))
	}
	return l, 0, api.OK
}

// parts gives the parts of a message, up to the first that has an error.
func parts(b []byte) iter.Seq[part] {
	return func(yield func(p part) bool) {
		for place := 0; place < len(b); {
			f, size, err := look(b[place:])
			if !yield(part{f, place, err}) || err != api.OK {
				return
			}
			place += size
		}
	}
}

// look does as Read, but the field's bytes are still a part of b: what is
// passed over needn't be copied.
func look(b []byte) (Field, int, api.Errno) {
	var f Field
	size := 0
	key, begin, err := varint.Read(b)
	if err != api.OK {
		goto refused
	}
	f, err = keyed(key)
	if err != api.OK {
		goto refused
	}
	switch f.Kind {
	case Number:
		f.N, size, err = varint.Read(b[begin:])
	case Bytes:
		f.Bytes, size, err = counted(b[begin:])
	default:
		f.N, size, err = word(b[begin:], width(f.Kind))
	}
	if err != api.OK {
		goto refused
	}
	return f, begin + size, api.OK
refused:
	return Field{}, 0, err
}

// keyed answers a field without a value, whose key this is.
func keyed(key uint64) (Field, api.Errno) {
	f := Field{Num: int(key / kinds), Kind: int(key % kinds)}
	switch {
	case !numbered(f.Num):
		return Field{}, api.ErrRange
	case !known(f.Kind):
		return Field{}, api.ErrKind
	}
	return f, api.OK
}

// counted answers the bytes that b begins with, behind how many they are; and
// how many all these are.
func counted(b []byte) ([]byte, int, api.Errno) {
	n, begin, err := varint.Read(b)
	if err != api.OK {
		return nil, 0, err
	}
	// n may be greater than any int.
	if n > uint64(len(b)-begin) {
		return nil, 0, api.ErrEnd
	}
	end := begin + int(n)
	return b[begin:end], end, api.OK
}

// word answers the word of so many bytes that b begins with, and how many they
// are.
func word(b []byte, size int) (uint64, int, api.Errno) {
	if len(b) < size {
		return 0, 0, api.ErrEnd
	}
	var n uint64
	for i := range size {
		n |= uint64(b[i]) << (8 * i)
	}
	return n, size, api.OK
}
