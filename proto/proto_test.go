package proto

import (
	"bytes"
	"math"
	"math/big"
	"slices"
	"testing"

	"graticule/api"
)

// equal holds two fields against each other, no bytes and nil as one.
func equal(f, g Field) bool {
	return f.Num == g.Num && f.Kind == g.Kind && f.N == g.N && bytes.Equal(f.Bytes, g.Bytes)
}

func allEqual(a, b []Field) bool { return slices.EqualFunc(a, b, equal) }

// parted tells a number by a base: its lowest part first, and so many parts at
// least; more is added to all parts but the last.
func parted(n uint64, base, least int, more byte) []byte {
	left, part := new(big.Int).SetUint64(n), new(big.Int)
	var b []byte
	for {
		left.DivMod(left, big.NewInt(int64(base)), part)
		b = append(b, byte(part.Int64()))
		if left.Sign() == 0 && len(b) >= least {
			return b
		}
		b[len(b)-1] += more
	}
}

// sevens tells the bytes of a number, as chapter 7 defines them.
func sevens(n uint64) []byte { return parted(n, 128, 1, 128) }

// defined tells a right field's bytes by the words' own definition.
func defined(f Field) []byte {
	key := sevens(uint64(8*f.Num + f.Kind))
	switch f.Kind {
	case 0:
		return slices.Concat(key, sevens(f.N))
	case 1:
		return slices.Concat(key, parted(f.N, 256, 8, 0))
	case 2:
		return slices.Concat(key, sevens(uint64(len(f.Bytes))), f.Bytes)
	case 5:
		return slices.Concat(key, parted(f.N, 256, 4, 0))
	}
	panic("no kind")
}

// refusal tells what Write promises of one field, one condition at a time.
func refusal(f Field) api.Errno {
	if f.Num < 1 || f.Num > 536870911 {
		return api.ErrRange
	}
	if !slices.Contains([]int{0, 1, 2, 5}, f.Kind) {
		return api.ErrKind
	}
	if f.Kind != 2 && len(f.Bytes) != 0 {
		return api.ErrForm
	}
	if f.Kind == 2 && f.N != 0 {
		return api.ErrForm
	}
	if f.Kind == 5 && f.N > 4294967295 {
		return api.ErrRange
	}
	return api.OK
}

// many answers a row of so many bytes, not all the same.
func many(n int) []byte {
	b := make([]byte, n)
	for i := range b {
		b[i] = byte(i*7 + i/251)
	}
	return b
}

// anyFields answers fields, right and wrong, of all numbers, kinds and values
// about which a promise says something, each with each.
func anyFields() []Field {
	nums := []int{1, 2, 3, 15, 16, 2047, 2048, 1<<29 - 2, 1<<29 - 1, 1 << 29, 0, -1, 1 << 32, 1<<32 + 1, 1 << 60, 1<<61 + 1, math.MaxInt, math.MinInt, math.MinInt + 1}
	kinds := []int{0, 1, 2, 3, 4, 5, 6, 7, 8, 10, 13, -1, -3, -6, math.MaxInt, math.MinInt}
	values := []uint64{0, 1, 127, 128, 300, 1<<32 - 1, 1 << 32, 1<<63 - 1, 1 << 63, math.MaxUint64}
	rows := [][]byte{nil, {}, {0}, []byte("ab"), many(127), many(128)}
	var l []Field
	for _, num := range nums {
		for _, kind := range kinds {
			for _, n := range values {
				for _, b := range rows {
					l = append(l, Field{num, kind, n, b})
				}
			}
		}
	}
	return l
}

// rightFields answers those of them that may be written.
func rightFields() []Field {
	var l []Field
	for _, f := range anyFields() {
		if refusal(f) == api.OK {
			l = append(l, f)
		}
	}
	return l
}

// P8.1

func TestWrite(t *testing.T) {
	rows := []struct {
		l    []Field
		want []byte
	}{
		{nil, nil},
		{[]Field{}, nil},
		{[]Field{{Num: 3, Kind: Bytes, Bytes: []byte("ab")}}, []byte{26, 2, 97, 98}},
		{[]Field{{Num: 15, Kind: Number, N: 2}}, []byte{120, 2}},
		{[]Field{{Num: 1}}, []byte{8, 0}},
		{[]Field{{Num: 1, Bytes: []byte{}}}, []byte{8, 0}},
		{[]Field{{Num: 16, N: 300}}, []byte{128, 1, 172, 2}},
		{[]Field{{Num: 2, Kind: Bytes}}, []byte{18, 0}},
		{[]Field{{Num: 2, Kind: Bytes, Bytes: []byte{}}}, []byte{18, 0}},
		{[]Field{{Num: 1, Kind: Eight, N: 1<<56 + 2}}, []byte{9, 2, 0, 0, 0, 0, 0, 0, 1}},
		{[]Field{{Num: 1, Kind: Eight, N: math.MaxUint64}}, []byte{9, 255, 255, 255, 255, 255, 255, 255, 255}},
		{[]Field{{Num: 1, Kind: Four, N: 0x04030201}}, []byte{13, 1, 2, 3, 4}},
		{[]Field{{Num: 1, Kind: Four, N: 1<<32 - 1}}, []byte{13, 255, 255, 255, 255}},
		{[]Field{{Num: 1<<29 - 1, N: 1}}, []byte{248, 255, 255, 255, 15, 1}},
		{
			[]Field{{Num: 2, Kind: Bytes, Bytes: []byte{8, 1}}, {Num: 1, N: 1}, {Num: 1, N: 1}, {Num: 1, Kind: Four}},
			[]byte{18, 2, 8, 1, 8, 1, 8, 1, 13, 0, 0, 0, 0},
		},
	}
	for _, r := range rows {
		b, err := Write(r.l...)
		if !bytes.Equal(b, r.want) || err != api.OK {
			t.Error(r, b, err)
		}
	}
}

func TestWriteRefuses(t *testing.T) {
	good := Field{Num: 1, N: 1}
	ab := []byte("ab")
	rows := []struct {
		l   []Field
		err api.Errno
	}{
		{[]Field{{}}, api.ErrRange},
		{[]Field{{Num: -1}}, api.ErrRange},
		{[]Field{{Num: 1 << 29}}, api.ErrRange},
		{[]Field{{Num: 1, Kind: 3}}, api.ErrKind},
		{[]Field{{Num: 1, Kind: 4}}, api.ErrKind},
		{[]Field{{Num: 1, Kind: 6}}, api.ErrKind},
		{[]Field{{Num: 1, Kind: 7}}, api.ErrKind},
		{[]Field{{Num: 1, Kind: 8}}, api.ErrKind},
		{[]Field{{Num: 1, Kind: -1}}, api.ErrKind},
		{[]Field{{Num: 1, Kind: Number, Bytes: ab}}, api.ErrForm},
		{[]Field{{Num: 1, Kind: Eight, Bytes: ab}}, api.ErrForm},
		{[]Field{{Num: 1, Kind: Four, Bytes: ab}}, api.ErrForm},
		{[]Field{{Num: 1, Kind: Bytes, N: 1}}, api.ErrForm},
		{[]Field{{Num: 1, Kind: Bytes, N: 2, Bytes: ab}}, api.ErrForm},
		{[]Field{{Num: 1, Kind: Four, N: 1 << 32}}, api.ErrRange},
		// several errors of one field
		{[]Field{{Num: 0, Kind: 3, N: 1, Bytes: ab}}, api.ErrRange},
		{[]Field{{Num: 1, Kind: 3, N: 1, Bytes: ab}}, api.ErrKind},
		{[]Field{{Num: 1, Kind: Four, N: 1 << 32, Bytes: ab}}, api.ErrForm},
		// field by field
		{[]Field{good, {Num: 1, Kind: 3}, {}}, api.ErrKind},
		{[]Field{good, good, {Num: 1, Bytes: ab}, {Num: 1, Kind: 3}}, api.ErrForm},
		{[]Field{{Num: 1, Kind: Four, N: 1 << 32}, {Num: 1, Kind: 3}, good}, api.ErrRange},
	}
	for _, r := range rows {
		if b, err := Write(r.l...); b != nil || err != r.err {
			t.Error(r, b, err)
		}
	}
}

func TestWriteOfAny(t *testing.T) {
	for _, f := range anyFields() {
		var want []byte
		refused := refusal(f)
		if refused == api.OK {
			want = defined(f)
		}
		if b, err := Write(f); !bytes.Equal(b, want) || err != refused {
			t.Fatal(f, b, err, want, refused)
		}
	}
}

func TestWriteOfTwo(t *testing.T) {
	all := anyFields()
	for i, f := range all {
		g := all[i*7919%len(all)]
		var want []byte
		refused := refusal(f)
		if refused == api.OK {
			refused = refusal(g)
		}
		if refused == api.OK {
			want = slices.Concat(defined(f), defined(g))
		}
		if b, err := Write(f, g); !bytes.Equal(b, want) || err != refused {
			t.Fatal(f, g, b, err, want, refused)
		}
	}
}

// P8.3: Only and Same

func TestOnly(t *testing.T) {
	a, b := Field{Num: 2, N: 1}, Field{Num: 2, Kind: Bytes, Bytes: []byte("x")}
	c, d := Field{Num: 3, Kind: Four, N: 9}, Field{Num: 1, Kind: Eight, N: 5}
	// a field that may not be written has its number nevertheless.
	e, f := Field{Kind: 9, N: 3, Bytes: []byte("y")}, Field{Num: -4}
	l := []Field{a, c, b, e, a, d, f, b}
	rows := []struct {
		num  int
		want []Field
	}{
		{2, []Field{a, b, a, b}}, {3, []Field{c}}, {1, []Field{d}}, {0, []Field{e}}, {-4, []Field{f}},
		{4, nil}, {1 << 29, nil}, {math.MaxInt, nil}, {math.MinInt, nil},
	}
	for _, r := range rows {
		if got := Only(l, r.num); !allEqual(got, r.want) {
			t.Error(r, got)
		}
		if got := Only(nil, r.num); len(got) != 0 {
			t.Error("of nothing", r, got)
		}
	}
}

func TestSame(t *testing.T) {
	f := Field{Num: 2, Kind: Bytes, Bytes: []byte("ab")}
	none, empty := Field{Num: 2, Kind: Bytes}, Field{Num: 2, Kind: Bytes, Bytes: []byte{}}
	n := Field{Num: 1, N: 7}
	rows := []struct {
		a, b []Field
		want bool
	}{
		{nil, nil, true},
		{nil, []Field{}, true},
		{nil, []Field{{}}, false},
		{[]Field{{}}, []Field{{}}, true},
		{[]Field{none}, []Field{empty}, true},
		{[]Field{{Num: 1, Bytes: []byte{}}}, []Field{{Num: 1}}, true},
		{[]Field{f}, []Field{none}, false},
		{[]Field{f, n}, []Field{{Num: 2, Kind: Bytes, Bytes: []byte("ab")}, n}, true},
		{[]Field{f, n}, []Field{n, f}, false},
		{[]Field{f, n}, []Field{f}, false},
		{[]Field{f}, []Field{f, n}, false},
		{[]Field{n}, []Field{{Num: 2, N: 7}}, false},
		{[]Field{n}, []Field{{Num: 1, N: 8}}, false},
		{[]Field{n}, []Field{{Num: 1, Kind: Eight, N: 7}}, false},
		{[]Field{f}, []Field{{Num: 2, Kind: Bytes, Bytes: []byte("abc")}}, false},
		{[]Field{f}, []Field{{Num: 2, Kind: Bytes, Bytes: []byte("aB")}}, false},
		// what may not be written is held against each other, too.
		{[]Field{{Num: -1, Kind: 9, N: 1, Bytes: []byte{1}}}, []Field{{Num: -1, Kind: 9, N: 1, Bytes: []byte{1}}}, true},
		{[]Field{{Num: -1, Kind: 9}}, []Field{{Num: -1, Kind: 8}}, false},
		{[]Field{{Kind: Bytes, N: 1}}, []Field{{Kind: Bytes}}, false},
		{[]Field{{Kind: Number, Bytes: []byte{1}}}, []Field{{Kind: Number}}, false},
	}
	for _, r := range rows {
		if Same(r.a, r.b) != r.want || Same(r.b, r.a) != r.want {
			t.Error(r)
		}
	}
}

func TestSameOfAny(t *testing.T) {
	all := anyFields()
	for i, f := range all {
		g := all[i*7919%len(all)]
		if Same([]Field{f}, []Field{g}) != equal(f, g) || !Same([]Field{f, g}, []Field{f, g}) {
			t.Fatal(f, g)
		}
	}
}

// P1 and P2: memory, the same answers

func TestWhatIsHandedInStays(t *testing.T) {
	made := func() []Field {
		return []Field{
			{Num: 2, Kind: Bytes, Bytes: []byte("abcd")[:2]}, {Num: 1, N: 4},
			{Num: 2, Kind: Bytes, Bytes: []byte("efgh")[:3]}, {Num: 2, Kind: Number, N: 5},
		}
	}
	l := made()
	b, _ := Write(l[:3]...)
	only := Only(l[:3], 2)
	Same(l, only)
	if !allEqual(l, made()) || string(l[0].Bytes[:4]) != "abcd" || string(l[2].Bytes[:4]) != "efgh" {
		t.Error("changed", l)
	}
	clear(l[0].Bytes)
	clear(l[2].Bytes)
	clear(l)
	want, _ := Write(made()[:3]...)
	if !bytes.Equal(b, want) || !allEqual(only, []Field{made()[0], made()[2]}) {
		t.Error("kept", b, only)
	}
}

func TestAnswersShareNothing(t *testing.T) {
	shared := []byte("abcdefgh")
	f := Field{Num: 2, Kind: Bytes, Bytes: shared[:4]}
	l := []Field{f, f, {Num: 2, Kind: Bytes, Bytes: shared[2:6]}}
	only := Only(l, 2)
	clear(only[0].Bytes)
	only[1].Bytes = append(only[1].Bytes, "zzzzzzzzzzzzzzzz"...)
	if string(only[1].Bytes[:4]) != "abcd" || string(only[2].Bytes) != "cdef" || string(shared) != "abcdefgh" {
		t.Error("only", only, shared)
	}
	a, _ := Write(l...)
	b, _ := Write(l...)
	want := slices.Clone(b)
	clear(a[:cap(a)])
	if !bytes.Equal(b, want) || string(shared) != "abcdefgh" {
		t.Error("write", b, shared)
	}
}

func TestSameCallsSameAnswers(t *testing.T) {
	all := rightFields()
	a, err := Write(all...)
	b, e := Write(all...)
	if !bytes.Equal(a, b) || err != e || err != api.OK {
		t.Error(err, e)
	}
	for num := range 20 {
		if !allEqual(Only(all, num), Only(all, num)) {
			t.Error(num)
		}
	}
}
