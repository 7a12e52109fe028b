package proto

import (
	"bytes"
	"math"
	"slices"
	"testing"

	"graticule/api"
	"graticule/varint"
)

// answer is what Read answers.
type answer struct {
	f    Field
	size int
	err  api.Errno
}

func read(b []byte) answer {
	f, size, err := Read(b)
	return answer{f, size, err}
}

func (a answer) is(o answer) bool {
	return equal(a.f, o.f) && a.size == o.size && a.err == o.err
}

// lowestFirst puts a word together, the lowest byte first.
func lowestFirst(b []byte) uint64 {
	n := uint64(0)
	for i := len(b) - 1; i >= 0; i-- {
		n = n*256 + uint64(b[i])
	}
	return n
}

// expected tells what Read promises of b, error by error in the chapter's
// order.
func expected(b []byte) answer {
	key, begin, err := varint.Read(b)
	if err != api.OK {
		return answer{err: err}
	}
	if key < 8 || key >= 1<<32 {
		return answer{err: api.ErrRange}
	}
	f, rest := Field{Num: int(key / 8), Kind: int(key % 8)}, b[begin:]
	fixed := map[int]int{1: 8, 5: 4}[f.Kind]
	switch f.Kind {
	default:
		return answer{err: api.ErrKind}
	case 0:
		n, size, err := varint.Read(rest)
		if err != api.OK {
			return answer{err: err}
		}
		f.N = n
		return answer{f, begin + size, api.OK}
	case 2:
		n, size, err := varint.Read(rest)
		if err != api.OK {
			return answer{err: err}
		}
		if uint64(len(rest[size:])) < n {
			return answer{err: api.ErrEnd}
		}
		f.Bytes = rest[size : size+int(n)]
		return answer{f, begin + size + int(n), api.OK}
	case 1, 5:
		if len(rest) < fixed {
			return answer{err: api.ErrEnd}
		}
		f.N = lowestFirst(rest[:fixed])
		return answer{f, begin + fixed, api.OK}
	}
}

// checkRead holds Read and Skip against the promise, and what was read against
// the bytes it was read from.
func checkRead(t *testing.T, b []byte) {
	t.Helper()
	got, want := read(b), expected(b)
	if !got.is(want) {
		t.Fatal("read", b, got, want)
	}
	if size, err := Skip(b); size != want.size || err != want.err {
		t.Fatal("skip", b, size, err, want)
	}
	if got.err == api.OK {
		if again, err := Write(got.f); !bytes.Equal(again, b[:got.size]) || err != api.OK {
			t.Fatal("written anew", b, got, again, err)
		}
	}
}

// checkAll holds All against Read, place by place.
func checkAll(t *testing.T, b []byte) {
	t.Helper()
	var want []Field
	place, err := 0, api.OK
	for at := 0; at < len(b); {
		a := expected(b[at:])
		if a.err != api.OK {
			want, place, err = nil, at, a.err
			break
		}
		want, at = append(want, a.f), at+a.size
	}
	l, at, e := All(b)
	if !allEqual(l, want) || at != place || e != err {
		t.Fatal(b, l, at, e, want, place, err)
	}
	if e != api.OK {
		return
	}
	if again, err := Write(l...); !bytes.Equal(again, b) || err != api.OK {
		t.Fatal("written anew", b, again, err)
	}
}

// strings gives all rows of up to n of these bytes, each to be used at once.
func strings(of []byte, n int, use func(b []byte)) {
	use(nil)
	if n == 0 {
		return
	}
	for _, c := range of {
		strings(of, n-1, func(b []byte) { use(append([]byte{c}, b...)) })
	}
}

func allBytes() []byte {
	var l []byte
	for c := range 256 {
		l = append(l, byte(c))
	}
	return l
}

// P8.2

func TestRead(t *testing.T) {
	rows := []struct {
		b    []byte
		want answer
	}{
		{[]byte{26, 2, 97, 98}, answer{Field{Num: 3, Kind: Bytes, Bytes: []byte("ab")}, 4, api.OK}},
		{[]byte{26, 2, 97, 98, 99}, answer{Field{Num: 3, Kind: Bytes, Bytes: []byte("ab")}, 4, api.OK}},
		{[]byte{120, 2}, answer{Field{Num: 15, N: 2}, 2, api.OK}},
		{[]byte{8, 0, 255}, answer{Field{Num: 1}, 2, api.OK}},
		{[]byte{8, 172, 2}, answer{Field{Num: 1, N: 300}, 3, api.OK}},
		{[]byte{128, 1, 1}, answer{Field{Num: 16, N: 1}, 3, api.OK}},
		{[]byte{18, 0}, answer{Field{Num: 2, Kind: Bytes}, 2, api.OK}},
		{[]byte{9, 2, 0, 0, 0, 0, 0, 0, 1, 9}, answer{Field{Num: 1, Kind: Eight, N: 1<<56 + 2}, 9, api.OK}},
		{[]byte{13, 1, 2, 3, 4, 5}, answer{Field{Num: 1, Kind: Four, N: 0x04030201}, 5, api.OK}},
		{[]byte{13, 255, 255, 255, 255}, answer{Field{Num: 1, Kind: Four, N: 1<<32 - 1}, 5, api.OK}},
		{[]byte{248, 255, 255, 255, 15, 1}, answer{Field{Num: 1<<29 - 1, N: 1}, 6, api.OK}},
	}
	for _, r := range rows {
		if got := read(r.b); !got.is(r.want) {
			t.Error(r, got)
		}
		if size, err := Skip(r.b); size != r.want.size || err != api.OK {
			t.Error("skip", r, size, err)
		}
	}
}

func TestReadRefuses(t *testing.T) {
	after := func(b []byte, n int, rest ...byte) []byte {
		return slices.Concat(b, bytes.Repeat([]byte{255}, n), rest)
	}
	rows := []struct {
		b   []byte
		err api.Errno
	}{
		// the key's error
		{nil, api.ErrEnd},
		{[]byte{}, api.ErrEnd},
		{[]byte{136}, api.ErrEnd},
		{[]byte{136, 0}, api.ErrForm},
		{after(nil, 10, 1), api.ErrRange},
		{after(nil, 9, 2), api.ErrRange},
		// its number, ahead of its kind
		{[]byte{0}, api.ErrRange},
		{[]byte{0, 5}, api.ErrRange},
		{[]byte{2, 0}, api.ErrRange},
		{[]byte{3}, api.ErrRange},
		{[]byte{7}, api.ErrRange},
		{[]byte{128, 128, 128, 128, 16, 0}, api.ErrRange},
		{[]byte{131, 128, 128, 128, 16}, api.ErrRange},
		{after(nil, 9, 1), api.ErrRange},
		// its kind, ahead of what follows
		{[]byte{11}, api.ErrKind},
		{[]byte{12, 128, 0}, api.ErrKind},
		{[]byte{14, 0}, api.ErrKind},
		{[]byte{15, 0}, api.ErrKind},
		{[]byte{255, 255, 255, 255, 15}, api.ErrKind},
		// the number's
		{[]byte{8}, api.ErrEnd},
		{[]byte{8, 128}, api.ErrEnd},
		{[]byte{8, 128, 0}, api.ErrForm},
		{after([]byte{8}, 10), api.ErrRange},
		{after([]byte{8}, 9, 2), api.ErrRange},
		// that of how many bytes there are
		{[]byte{18}, api.ErrEnd},
		{[]byte{18, 128}, api.ErrEnd},
		{[]byte{18, 128, 0}, api.ErrForm},
		{[]byte{18, 129, 0, 7}, api.ErrForm},
		{after([]byte{18}, 10), api.ErrRange},
		{after([]byte{18}, 9, 2), api.ErrRange},
		// too few bytes
		{[]byte{18, 1}, api.ErrEnd},
		{[]byte{18, 3, 1, 2}, api.ErrEnd},
		{after([]byte{18}, 9, 1), api.ErrEnd},
		{after([]byte{18}, 8, 127), api.ErrEnd},
		{after([]byte{18, 128, 128, 128, 128, 128, 128, 128, 128, 128, 1}, 200), api.ErrEnd},
		{after([]byte{18, 253, 255, 255, 255, 255, 255, 255, 255, 255, 1}, 200), api.ErrEnd},
		{[]byte{9}, api.ErrEnd},
		{[]byte{9, 1, 2, 3, 4, 5, 6, 7}, api.ErrEnd},
		{[]byte{13}, api.ErrEnd},
		{[]byte{13, 1, 2, 3}, api.ErrEnd},
	}
	for _, r := range rows {
		if got := read(r.b); !got.is(answer{err: r.err}) || got.f.Bytes != nil {
			t.Error(r, got)
		}
		if size, err := Skip(r.b); size != 0 || err != r.err {
			t.Error("skip", r, size, err)
		}
	}
}

func TestReadOfAllShort(t *testing.T) {
	strings(allBytes(), 2, func(b []byte) { checkRead(t, b) })
	strings([]byte{0, 1, 2, 8, 9, 11, 13, 18, 127, 128, 255}, 5, func(b []byte) { checkRead(t, b) })
}

// Of each number's edge, and each kind, stands a key ahead of all kinds of ends.
func TestReadOfAllKeys(t *testing.T) {
	keys := []uint64{1 << 32, 1<<32 + 8, 1 << 33, 1 << 35, 1<<35 + 8, 1 << 60, 1 << 61, 1 << 63, math.MaxUint64 - 7}
	for _, num := range []uint64{0, 1, 2, 15, 16, 17, 2047, 2048, 1<<29 - 2, 1<<29 - 1, 1 << 29} {
		keys = append(keys, 8*num)
	}
	for _, key := range keys {
		for kind := range uint64(8) {
			b := sevens(key + kind)
			checkRead(t, b[:len(b)-1])
			strings([]byte{0, 1, 2, 128, 255}, 4, func(rest []byte) { checkRead(t, slices.Concat(b, rest)) })
			for n := range 13 {
				checkRead(t, slices.Concat(b, many(n)))
				checkRead(t, slices.Concat(b, bytes.Repeat([]byte{255}, n), []byte{1, 2, 3}))
			}
		}
	}
}

func TestReadOfCounts(t *testing.T) {
	for _, n := range []int{0, 1, 2, 5, 126, 127, 128, 129, 16383, 16384, 70000} {
		b := slices.Concat([]byte{18}, sevens(uint64(n)), many(n))
		for _, end := range []int{0, 1, 2, 3, len(b) - 2, len(b) - 1, len(b)} {
			checkRead(t, b[:max(end, 0)])
		}
		checkRead(t, append(b, 1, 2, 3))
	}
	for shift := range 64 {
		n := uint64(1) << shift
		for _, count := range []uint64{n - 1, n, n + 1, -n, -n - 1} {
			checkRead(t, slices.Concat([]byte{18}, sevens(count), many(100)))
		}
	}
}

// P8.3: All

func TestAll(t *testing.T) {
	n, ab := Field{Num: 15, N: 2}, Field{Num: 3, Kind: Bytes, Bytes: []byte("ab")}
	rows := []struct {
		b     []byte
		want  []Field
		place int
		err   api.Errno
	}{
		{nil, nil, 0, api.OK},
		{[]byte{}, nil, 0, api.OK},
		{[]byte{120, 2}, []Field{n}, 0, api.OK},
		{[]byte{26, 2, 97, 98, 120, 2, 120, 2}, []Field{ab, n, n}, 0, api.OK},
		{[]byte{18, 0, 13, 1, 0, 0, 0}, []Field{{Num: 2, Kind: Bytes}, {Num: 1, Kind: Four, N: 1}}, 0, api.OK},
		{[]byte{0}, nil, 0, api.ErrRange},
		{[]byte{11}, nil, 0, api.ErrKind},
		{[]byte{128}, nil, 0, api.ErrEnd},
		{[]byte{120, 2, 0}, nil, 2, api.ErrRange},
		{[]byte{26, 2, 97, 98, 120, 2, 11, 0}, nil, 6, api.ErrKind},
		{[]byte{26, 2, 97, 98, 120, 128, 0, 11}, nil, 4, api.ErrForm},
		{[]byte{26, 2, 97, 98, 120, 2, 26, 2, 97}, nil, 6, api.ErrEnd},
		{[]byte{26, 3, 97, 98, 11}, []Field{{Num: 3, Kind: Bytes, Bytes: []byte{97, 98, 11}}}, 0, api.OK},
	}
	for _, r := range rows {
		l, place, err := All(r.b)
		if !allEqual(l, r.want) || place != r.place || err != r.err {
			t.Error(r, l, place, err)
		}
		if err != api.OK && l != nil {
			t.Error("beside an error", r, l)
		}
	}
}

func TestAllOfAllShort(t *testing.T) {
	strings(allBytes(), 2, func(b []byte) { checkAll(t, b) })
	strings([]byte{0, 1, 8, 11, 13, 18, 128}, 6, func(b []byte) { checkAll(t, b) })
}

// Messages are cut off at each place, and changed at each place.
func TestAllOfMessages(t *testing.T) {
	all := rightFields()
	for i := range all {
		var b []byte
		for j := range i % 5 {
			b = append(b, defined(all[(i*7919+j*104729)%len(all)])...)
		}
		checkAll(t, b)
		for k := range min(len(b), 40) {
			checkAll(t, b[:k])
			b[k] += byte(1 + i%7*37)
			checkAll(t, b)
		}
	}
}

// P8.4

func TestWhatWasWrittenIsRead(t *testing.T) {
	all := rightFields()
	b, err := Write(all...)
	if err != api.OK {
		t.Fatal(err)
	}
	l, place, err := All(b)
	if !allEqual(l, all) || !Same(l, all) || place != 0 || err != api.OK {
		t.Fatal(place, err)
	}
	for _, f := range all {
		size := len(defined(f))
		if got := read(b); !got.is(answer{f, size, api.OK}) {
			t.Fatal(f, got)
		}
		if got, err := Skip(b); got != size || err != api.OK {
			t.Fatal(f, got, err)
		}
		b = b[size:]
	}
}

// P1 and P2: ends, memory

func TestManyFields(t *testing.T) {
	b := bytes.Repeat([]byte{18, 0}, 1<<19)
	l, place, err := All(b)
	if len(l) != 1<<19 || place != 0 || err != api.OK {
		t.Error(len(l), place, err)
	}
	b[len(b)-1] = 1
	l, place, err = All(b)
	if l != nil || place != len(b)-2 || err != api.ErrEnd {
		t.Error(len(l), place, err)
	}
}

func TestBytesReadStay(t *testing.T) {
	whole := func() []byte { return []byte{26, 2, 97, 98, 26, 3, 1, 2, 3, 8, 5, 11, 26} }
	for end := range len(whole()) + 1 {
		b := whole()
		l, _, _ := All(b[:end])
		a := read(b[:end])
		Skip(b[:end])
		if !bytes.Equal(b, whole()) {
			t.Error("changed", end, b)
		}
		clear(b)
		again, _, _ := All(whole()[:end])
		if !allEqual(l, again) || !a.is(expected(whole()[:end])) {
			t.Error("kept", end, l, a)
		}
	}
}

func TestFieldsReadShareNothing(t *testing.T) {
	b := []byte{26, 2, 97, 98, 26, 2, 97, 98}
	l, _, _ := All(b)
	m, _, _ := All(b)
	one, other := read(b), read(b)
	clear(l[0].Bytes)
	clear(one.f.Bytes)
	l[0].Bytes = append(l[0].Bytes, 7, 7, 7, 7)
	one.f.Bytes = append(one.f.Bytes, 7, 7, 7, 7)
	for _, got := range [][]byte{l[1].Bytes, m[0].Bytes, m[1].Bytes, other.f.Bytes} {
		if string(got) != "ab" {
			t.Error(got)
		}
	}
	if !bytes.Equal(b, []byte{26, 2, 97, 98, 26, 2, 97, 98}) {
		t.Error(b)
	}
}

func TestSameBytesSameFields(t *testing.T) {
	strings([]byte{0, 8, 13, 18, 128, 255}, 5, func(b []byte) {
		l, place, err := All(b)
		m, at, e := All(b)
		if !read(b).is(read(b)) || !allEqual(l, m) || place != at || err != e {
			t.Fatal(b)
		}
	})
}
