package varint

import (
	"bytes"
	"math"
	"math/big"
	"slices"
	"testing"

	"graticule/api"
)

// groups tells the bytes of n by the words' own definition: its groups of
// seven bits, the lowest first, as few as can be, one at least.
func groups(n uint64) []byte {
	left, base := new(big.Int).SetUint64(n), big.NewInt(128)
	var b []byte
	for {
		group := new(big.Int)
		left.DivMod(left, base, group)
		if left.Sign() == 0 {
			return append(b, byte(group.Int64()))
		}
		b = append(b, byte(group.Int64()+128))
	}
}

// answer is what Read answers.
type answer struct {
	n    uint64
	size int
	err  api.Errno
}

func read(b []byte) answer {
	n, size, err := Read(b)
	return answer{n, size, err}
}

// expected tells what Read promises of b, error by error in the chapter's
// order.
func expected(b []byte) answer {
	ends := slices.IndexFunc(b, func(c byte) bool { return c < 128 })
	switch {
	case len(b) >= 10 && (ends < 0 || ends >= 10):
		return answer{err: api.ErrRange}
	case ends < 0:
		return answer{err: api.ErrEnd}
	case ends == 9 && b[9] > 1:
		return answer{err: api.ErrRange}
	case ends > 0 && b[ends] == 0:
		return answer{err: api.ErrForm}
	}
	n := new(big.Int)
	for i := ends; i >= 0; i-- {
		n.Mul(n, big.NewInt(128))
		n.Add(n, big.NewInt(int64(b[i]%128)))
	}
	if !n.IsUint64() {
		panic("the chapter's errors leave a number of over 64 bits")
	}
	return answer{n.Uint64(), ends + 1, api.OK}
}

func checkRead(t *testing.T, b []byte) {
	t.Helper()
	if got, want := read(b), expected(b); got != want {
		t.Fatal(b, got, want)
	}
}

// checkRow holds Row against Read, place by place.
func checkRow(t *testing.T, b []byte) {
	t.Helper()
	var want []uint64
	place, err := 0, api.OK
	for at := 0; at < len(b); {
		a := expected(b[at:])
		if a.err != api.OK {
			want, place, err = nil, at, a.err
			break
		}
		want, at = append(want, a.n), at+a.size
	}
	row, at, e := Row(b)
	if !slices.Equal(row, want) || at != place || e != err {
		t.Fatal(b, row, at, e, want, place, err)
	}
	if e == api.OK && !bytes.Equal(Bytes(row...), b) {
		t.Fatal("told anew", b, Bytes(row...))
	}
}

// edges answers numbers just where a number has one bit more, and so also
// where it has one byte more.
func edges() []uint64 {
	l := []uint64{0, 1, 2, 3, 300, math.MaxUint64, math.MaxUint64 - 1}
	for shift := range 64 {
		one := uint64(1) << shift
		l = append(l, one-1, one, one+1, one|one>>3)
	}
	return l
}

// mixed answers n numbers of any size that seem to have no order.
func mixed(n int) []uint64 {
	var l []uint64
	seed := uint64(12345)
	for i := range n {
		seed = seed*6364136223846793005 + 1442695040888963407
		l = append(l, (seed^seed>>29)>>(i*37%64))
	}
	return l
}

// strings gives all rows of up to n of these bytes, each to be used at once.
func strings(of []byte, n int, use func(b []byte)) {
	var add func(b []byte)
	add = func(b []byte) {
		use(b)
		if len(b) == n {
			return
		}
		for _, c := range of {
			add(append(b[:len(b):len(b)], c))
		}
	}
	add(nil)
}

func allBytes() []byte {
	var l []byte
	for c := range 256 {
		l = append(l, byte(c))
	}
	return l
}

// P7.1: Bytes and Size

func TestBytes(t *testing.T) {
	rows := []struct {
		l    []uint64
		want []byte
	}{
		{nil, nil},
		{[]uint64{}, nil},
		{[]uint64{1, 300}, []byte{1, 172, 2}},
		{[]uint64{0}, []byte{0}},
		{[]uint64{0, 0}, []byte{0, 0}},
		{[]uint64{127, 128}, []byte{127, 128, 1}},
		{[]uint64{16383, 16384}, []byte{255, 127, 128, 128, 1}},
		{[]uint64{1 << 63}, []byte{128, 128, 128, 128, 128, 128, 128, 128, 128, 1}},
		{[]uint64{1<<63 - 1}, []byte{255, 255, 255, 255, 255, 255, 255, 255, 127}},
		{[]uint64{math.MaxUint64}, []byte{255, 255, 255, 255, 255, 255, 255, 255, 255, 1}},
	}
	for _, r := range rows {
		if got := Bytes(r.l...); !bytes.Equal(got, r.want) {
			t.Error(r, got)
		}
	}
}

func TestBytesAndSizeByGroups(t *testing.T) {
	for _, n := range append(edges(), mixed(20000)...) {
		want := groups(n)
		if got := Bytes(n); !bytes.Equal(got, want) {
			t.Fatal(n, got, want)
		}
		if got := Size(n); got != len(want) {
			t.Fatal(n, got, len(want))
		}
	}
}

func TestBytesStandBehindOneAnother(t *testing.T) {
	l := append(edges(), mixed(300)...)
	var want []byte
	for i, n := range l {
		want = append(want, groups(n)...)
		if got := Bytes(l[:i+1]...); !bytes.Equal(got, want) {
			t.Fatal(i, got, want)
		}
	}
}

func TestSize(t *testing.T) {
	rows := []struct {
		n    uint64
		want int
	}{
		{0, 1}, {1, 1}, {127, 1}, {128, 2}, {16383, 2}, {16384, 3}, {1<<21 - 1, 3}, {1 << 21, 4},
		{1<<56 - 1, 8}, {1 << 56, 9}, {1<<63 - 1, 9}, {1 << 63, 10}, {math.MaxUint64, 10},
	}
	for _, r := range rows {
		if got := Size(r.n); got != r.want {
			t.Error(r, got)
		}
	}
}

// P7.1: Zig and Zag

func TestZigAndZag(t *testing.T) {
	rows := []struct {
		n int
		u uint64
	}{
		{0, 0}, {-1, 1}, {1, 2}, {-2, 3}, {2, 4}, {-3, 5}, {3, 6}, {-64, 127}, {64, 128},
		{api.Bound, 1 << 25}, {-api.Bound, 1<<25 - 1},
		{math.MaxInt, math.MaxUint64 - 1}, {math.MinInt, math.MaxUint64},
		{math.MinInt + 1, math.MaxUint64 - 2}, {1 << 62, 1 << 63}, {-1 << 62, 1<<63 - 1},
	}
	for _, r := range rows {
		if u := Zig(r.n); u != r.u {
			t.Error("zig", r, u)
		}
		if n := Zag(r.u); n != r.n {
			t.Error("zag", r, n)
		}
	}
}

func TestZigByDefinition(t *testing.T) {
	for _, u := range append(edges(), mixed(20000)...) {
		n := big.NewInt(int64(u))
		turned := new(big.Int).Mul(n, big.NewInt(2))
		if n.Sign() < 0 {
			turned.Neg(turned)
			turned.Sub(turned, big.NewInt(1))
		}
		if got := Zig(int(u)); got != turned.Uint64() || !turned.IsUint64() {
			t.Fatal(n, got, turned)
		}
		if Zag(Zig(int(u))) != int(u) || Zig(Zag(u)) != u {
			t.Fatal("there and back", u)
		}
	}
}

// P7.2: Read

func TestRead(t *testing.T) {
	long := func(n int, rest ...byte) []byte { return append(bytes.Repeat([]byte{128}, n), rest...) }
	rows := []struct {
		b    []byte
		want answer
	}{
		{nil, answer{err: api.ErrEnd}},
		{[]byte{}, answer{err: api.ErrEnd}},
		{[]byte{0}, answer{0, 1, api.OK}},
		{[]byte{0, 0}, answer{0, 1, api.OK}},
		{[]byte{127}, answer{127, 1, api.OK}},
		{[]byte{172, 2, 9}, answer{300, 2, api.OK}},
		{[]byte{1, 128}, answer{1, 1, api.OK}},
		{[]byte{128}, answer{err: api.ErrEnd}},
		{[]byte{128, 0}, answer{err: api.ErrForm}},
		{[]byte{128, 128, 0, 1}, answer{err: api.ErrForm}},
		{[]byte{255, 0}, answer{err: api.ErrForm}},
		{long(8, 1), answer{1 << 56, 9, api.OK}},
		{long(8, 127), answer{127 << 56, 9, api.OK}},
		{long(9), answer{err: api.ErrEnd}},
		{long(9, 1), answer{1 << 63, 10, api.OK}},
		{long(9, 1, 1), answer{1 << 63, 10, api.OK}},
		{long(9, 2), answer{err: api.ErrRange}},
		{long(9, 127), answer{err: api.ErrRange}},
		{long(9, 0), answer{err: api.ErrForm}},
		{long(10), answer{err: api.ErrRange}},
		{long(10, 0), answer{err: api.ErrRange}},
		{long(10, 1), answer{err: api.ErrRange}},
		{long(11), answer{err: api.ErrRange}},
	}
	for _, r := range rows {
		if got := read(r.b); got != r.want {
			t.Error(r, got)
		}
	}
}

func TestReadOfAllShort(t *testing.T) {
	strings(allBytes(), 2, func(b []byte) { checkRead(t, b) })
	strings([]byte{0, 1, 2, 127, 128, 129, 255}, 6, func(b []byte) { checkRead(t, b) })
}

// Behind a row of bytes that all go on stands any byte, and any more.
func TestReadOfAllLong(t *testing.T) {
	rest := [][]byte{nil, {0}, {1}, {2}, {128}, {255}, {128, 128, 128}, {0, 128}}
	for n := range 14 {
		for _, on := range []byte{128, 129, 200, 255} {
			begin := bytes.Repeat([]byte{on}, n)
			checkRead(t, begin)
			for c := range 256 {
				for _, r := range rest {
					checkRead(t, slices.Concat(begin, []byte{byte(c)}, r))
				}
			}
		}
	}
}

// P7.2: Row

func TestRow(t *testing.T) {
	nine := func(rest ...byte) []byte { return append(bytes.Repeat([]byte{255}, 9), rest...) }
	rows := []struct {
		b     []byte
		want  []uint64
		place int
		err   api.Errno
	}{
		{nil, nil, 0, api.OK},
		{[]byte{}, nil, 0, api.OK},
		{[]byte{1, 172, 2}, []uint64{1, 300}, 0, api.OK},
		{[]byte{0, 0, 0}, []uint64{0, 0, 0}, 0, api.OK},
		{nine(1), []uint64{math.MaxUint64}, 0, api.OK},
		{[]byte{128}, nil, 0, api.ErrEnd},
		{[]byte{172, 2, 172, 2, 172}, nil, 4, api.ErrEnd},
		{[]byte{128, 0}, nil, 0, api.ErrForm},
		{[]byte{5, 172, 2, 128, 0, 7}, nil, 3, api.ErrForm},
		{[]byte{5, 128, 0, 128}, nil, 1, api.ErrForm},
		{append([]byte{5, 172, 2, 7}, nine(128)...), nil, 4, api.ErrRange},
		{append([]byte{5}, nine(2)...), nil, 1, api.ErrRange},
		{append([]byte{5}, nine()...), nil, 1, api.ErrEnd},
	}
	for _, r := range rows {
		row, place, err := Row(r.b)
		if !slices.Equal(row, r.want) || place != r.place || err != r.err {
			t.Error(r, row, place, err)
		}
		if err != api.OK && row != nil {
			t.Error("beside an error", r, row)
		}
	}
}

func TestRowOfAll(t *testing.T) {
	strings(allBytes(), 2, func(b []byte) { checkRow(t, b) })
	strings([]byte{0, 1, 2, 127, 128, 255}, 6, func(b []byte) { checkRow(t, b) })
}

func TestRowOfManyBytes(t *testing.T) {
	for _, n := range mixed(3000) {
		b := groups(n)
		for i, m := range mixed(int(n % 9)) {
			if i%2 == 0 {
				b = append(b, groups(m*n)...)
			}
		}
		for end := range len(b) + 1 {
			checkRow(t, b[:end])
		}
		for i := range b {
			b[i] += byte(n>>8) + 1
			checkRow(t, b)
		}
	}
}

// P7.3

func TestWhatWasToldIsRead(t *testing.T) {
	l := append(edges(), mixed(200000)...)
	b := Bytes(l...)
	row, place, err := Row(b)
	if !slices.Equal(row, l) || place != 0 || err != api.OK {
		t.Fatal("row", place, err)
	}
	for i, n := range l {
		if got := read(b); got != (answer{n, Size(n), api.OK}) {
			t.Fatal(i, n, got)
		}
		b = b[Size(n):]
	}
}

func TestNoOtherBytesAreRead(t *testing.T) {
	of := []byte{0, 1, 2, 127, 128, 129, 255}
	strings(of, 5, func(b []byte) {
		if a := read(b); a.err == api.OK && !bytes.Equal(Bytes(a.n), b[:a.size]) {
			t.Fatal(b, a, Bytes(a.n))
		}
	})
	for n := range 11 {
		strings(of, 2, func(end []byte) {
			b := append(bytes.Repeat([]byte{255}, n), end...)
			if a := read(b); a.err == api.OK && !bytes.Equal(Bytes(a.n), b[:a.size]) {
				t.Fatal(b, a, Bytes(a.n))
			}
		})
	}
}

// P1 and P2: ends, memory

func TestManyBytesThatGoOn(t *testing.T) {
	b := bytes.Repeat([]byte{128}, 1<<22)
	if got := read(b); got != (answer{err: api.ErrRange}) {
		t.Error(got)
	}
	if row, place, err := Row(b); len(row) != 0 || place != 0 || err != api.ErrRange {
		t.Error(len(row), place, err)
	}
	clear(b)
	if row, place, err := Row(b); len(row) != len(b) || place != 0 || err != api.OK {
		t.Error(len(row), place, err)
	}
	b[len(b)-1] = 128
	if row, place, err := Row(b); len(row) != 0 || place != len(b)-1 || err != api.ErrEnd {
		t.Error(len(row), place, err)
	}
}

func TestWhatIsHandedInStays(t *testing.T) {
	numbers := func() []uint64 { return []uint64{5, 300, 1 << 40, 7, 8, 9} }
	l := numbers()
	b := Bytes(l[:3]...)
	if !slices.Equal(l, numbers()) {
		t.Error("changed", l)
	}
	clear(l)
	if !bytes.Equal(b, Bytes(numbers()[:3]...)) {
		t.Error("kept", b)
	}
	whole := func() []byte { return []byte{5, 172, 2, 128, 1, 128, 0, 9} }
	for end := range len(whole()) + 1 {
		c := whole()
		row, _, _ := Row(c[:end])
		Read(c[:end])
		if !bytes.Equal(c, whole()) {
			t.Error("changed", end, c)
		}
		want := slices.Clone(row)
		clear(c)
		if !slices.Equal(row, want) {
			t.Error("kept", end, row)
		}
	}
}

func TestAnswersAreNew(t *testing.T) {
	b := Bytes(1, 300)
	other := Bytes(1, 300)
	row, _, _ := Row(b)
	otherRow, _, _ := Row(b)
	clear(b)
	clear(row)
	if !bytes.Equal(other, []byte{1, 172, 2}) || !slices.Equal(otherRow, []uint64{1, 300}) {
		t.Error("shared", other, otherRow)
	}
}

func TestSameCallsSameAnswers(t *testing.T) {
	for _, n := range mixed(500) {
		if !bytes.Equal(Bytes(n, n), Bytes(n, n)) || Size(n) != Size(n) || Zag(n) != Zag(n) {
			t.Fatal(n)
		}
		b := append(Bytes(n), 128)
		row, place, err := Row(b)
		again, at, e := Row(b)
		if read(b) != read(b) || !slices.Equal(row, again) || place != at || err != e {
			t.Fatal(n, b)
		}
	}
}
