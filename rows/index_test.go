package rows

import (
	"math"
	"slices"
	"testing"

	"graticule/api"
)

// plainFind is what Find promises by other means: all gone through.
func plainFind(l []Box, b Box) []int {
	var found []int
	for i, other := range l {
		if touch(other, b) {
			found = append(found, i)
		}
	}
	return found
}

// plainPairs is what Pairs promises by other means.
func plainPairs(l []Box) [][2]int {
	var pairs [][2]int
	for i, a := range l {
		for j, b := range l {
			if i < j && touch(a, b) {
				pairs = append(pairs, [2]int{i, j})
			}
		}
	}
	return pairs
}

// checkIndex tells whether an index has these boxes, and finds for each of
// these others, for all its own, and for their points, what it promises.
func checkIndex(t *testing.T, x *Index, l []Box, others ...Box) {
	t.Helper()
	if x.Len() != len(l) {
		t.Fatal("len", x.Len(), len(l))
	}
	for i, want := range l {
		if b, ok := x.Box(i); b != want || !ok {
			t.Fatal("box", i, b, ok)
		}
	}
	if got := x.Pairs(); !slices.Equal(got, plainPairs(l)) {
		t.Fatal("pairs", got)
	}
	for _, b := range slices.Concat(l, others) {
		if got := x.Find(b); !slices.Equal(got, plainFind(l, b)) {
			t.Fatal("find", b, got)
		}
		for _, p := range []api.Point{b.Low, b.High, pt(b.Low.X, b.High.Y), pt(b.High.X+1, b.Low.Y)} {
			if got := x.At(p); !slices.Equal(got, plainFind(l, Box{p, p})) {
				t.Fatal("at", p, got)
			}
		}
	}
}

// numbers gives numbers from 0 up to below a top that seem to have no order.
func numbers() func(top int) int {
	seed := 12345
	return func(top int) int {
		seed = (seed*1103515245 + 12345) % (1 << 31)
		return seed / (1 << 8) % top
	}
}

// mixed answers n boxes around (0,0) that seem to have no order, up to so far
// away, with sides that are less than 2, or 4, or so on up to 2^doublings.
func mixed(n, away, doublings int) []Box {
	next := numbers()
	side := func() int { return next(2 << next(doublings)) }
	var l []Box
	for range n {
		low := pt(next(2*away+1)-away, next(2*away+1)-away)
		l = append(l, Box{low, pt(min(low.X+side(), api.Bound), min(low.Y+side(), api.Bound))})
	}
	return l
}

// P6.1: New, Add, Box, Len

func TestAddTellsHowMany(t *testing.T) {
	x := New()
	if x == nil || x.Len() != 0 || x.Add() != 0 {
		t.Fatal("of nothing")
	}
	if n := x.Add(bx(0, 0, 1, 1), bx(0, 0, 1, 1)); n != 2 {
		t.Error(n)
	}
	if n := x.Add(wrong()...); n != 2+len(wrong()) {
		t.Error("wrong ones", n)
	}
	if n := x.Add(); n != 2+len(wrong()) || x.Len() != n {
		t.Error("no more", n)
	}
	if y := New(Box{}, bx(2, 0, 1, 0), Box{}); y.Len() != 3 || y.Add(Box{}) != 4 {
		t.Error("new", y.Len())
	}
}

func TestBoxOfANumber(t *testing.T) {
	l := append(wrong(), Box{}, bx(1, 2, 3, 4))
	x := New(l...)
	for i, want := range l {
		if b, ok := x.Box(i); b != want || !ok {
			t.Error(i, b, ok)
		}
	}
	for _, i := range []int{-1, len(l), len(l) + 1, math.MinInt, math.MaxInt} {
		if b, ok := x.Box(i); b != (Box{}) || ok {
			t.Error("of none", i, b, ok)
		}
	}
	if b, ok := New().Box(0); b != (Box{}) || ok {
		t.Error("of nothing", b, ok)
	}
}

// P6.2

func TestExample(t *testing.T) {
	x := New(bx(0, 0, 2, 2), bx(2, 2, 3, 3), bx(5, 0, 6, 1))
	if got := x.Pairs(); !slices.Equal(got, [][2]int{{0, 1}}) {
		t.Error("pairs", got)
	}
	if got := x.At(pt(2, 2)); !slices.Equal(got, []int{0, 1}) {
		t.Error("at", got)
	}
	if got := x.Find(bx(3, 0, 9, 9)); !slices.Equal(got, []int{1, 2}) {
		t.Error("find", got)
	}
}

func TestNothingMeets(t *testing.T) {
	for _, x := range []*Index{New(), New(wrong()...), New(bx(5, 5, 6, 6))} {
		if l := x.Find(bx(0, 0, 4, 4)); len(l) != 0 {
			t.Error("find", l)
		}
		if l := x.At(pt(7, 5)); len(l) != 0 {
			t.Error("at", l)
		}
		if l := x.Pairs(); len(l) != 0 {
			t.Error("pairs", l)
		}
	}
}

func TestBoxesOfAll(t *testing.T) {
	for _, l := range [][]Box{boxesOf(0, 1, 2), boxesOf(-1, 0), boxesOf(-9, -8, -1, 8), boxesOf(-65, 0, 64)} {
		checkIndex(t, New(l...), l)
	}
}

func TestTwoBoxesOfAll(t *testing.T) {
	l := boxesOf(-2, -1, 0, 7)
	for _, a := range l {
		for _, b := range l {
			want := [][2]int{{0, 1}}
			if !touch(a, b) {
				want = nil
			}
			if got := New(a, b).Pairs(); !slices.Equal(got, want) {
				t.Fatal(a, b, got)
			}
		}
	}
}

func TestWrongOnesMeetNothing(t *testing.T) {
	world := bx(-api.Bound, -api.Bound, api.Bound, api.Bound)
	l := slices.Concat(wrong(), []Box{world, {}}, wrong())
	x := New(l...)
	checkIndex(t, x, l)
	n := len(wrong())
	if got := x.Find(world); !slices.Equal(got, []int{n, n + 1}) {
		t.Error("find", got)
	}
	for _, b := range wrong() {
		if got := x.Find(b); len(got) != 0 {
			t.Error("find", b, got)
		}
	}
	for _, p := range []api.Point{pt(api.Bound+1, 0), pt(0, -api.Bound-1), pt(math.MinInt, 0), pt(0, math.MaxInt)} {
		if got := x.At(p); len(got) != 0 {
			t.Error("at", p, got)
		}
	}
}

// boxes next to powers of two, on both sides of 0, meet over the borders of
// whatever is told apart by these.
func TestBoxesNextToPowersOfTwo(t *testing.T) {
	var l []Box
	for doublings := range 25 {
		n := 1 << doublings
		l = append(l,
			bx(n-1, -n, n, -n+1), bx(n, -1, n, 0), bx(-n, n-1, -n, n), bx(-n, -n, -1, -1),
			bx(0, 0, n, n), bx(-n, n, n, n), bx(n, -n, n, n), bx(n-1, n-1, n-1, n-1))
	}
	far := api.Bound
	l = append(l, bx(-far, -far, far, far), bx(far, far, far, far), bx(-far, -far, -far, -far), bx(-far, far, far, far))
	checkIndex(t, New(l...), l)
}

// a row of like boxes, one beside the other, each time with sides one greater:
// each meets its neighbours alone.
func TestBoxesOfEverySide(t *testing.T) {
	for side := range 70 {
		for _, gap := range []int{0, 1} {
			var l []Box
			for i := range 40 {
				x := (i - 20) * (side + gap)
				l = append(l, bx(x, -side/2, x+side, side-side/2), bx(-side/2, x, side-side/2, x+side))
			}
			checkIndex(t, New(l...), l)
		}
	}
}

func TestBoxesOfAllSizes(t *testing.T) {
	for doublings := 1; doublings <= 25; doublings++ {
		l := mixed(100, min(4<<doublings, api.Bound), doublings)
		checkIndex(t, New(l...), l, wrong()...)
	}
}

// so many boxes that not all are gone through for each of them.
func TestManyBoxesTogether(t *testing.T) {
	others := mixed(400, 40, 7)
	for _, doublings := range []int{1, 3, 4, 6} {
		l := mixed(1500, 35, doublings)
		checkIndex(t, New(l...), l, others...)
	}
}

func TestPairsOfLikeBoxes(t *testing.T) {
	for _, b := range []Box{{}, bx(-1, -1, 0, 0), bx(-3, -3, 3, 3), bx(-api.Bound, -api.Bound, api.Bound, api.Bound)} {
		l := slices.Repeat([]Box{b}, 200)
		checkIndex(t, New(l...), l)
	}
}

// P6.3

func TestNilIndex(t *testing.T) {
	var x *Index
	if n := x.Add(Box{}, bx(0, 0, 1, 1)); n != 0 || x.Len() != 0 {
		t.Error("add", n)
	}
	if l := x.Find(Box{}); len(l) != 0 {
		t.Error("find", l)
	}
	if l := x.At(pt(0, 0)); len(l) != 0 {
		t.Error("at", l)
	}
	if l := x.Pairs(); len(l) != 0 {
		t.Error("pairs", l)
	}
	if b, ok := x.Box(0); b != (Box{}) || ok {
		t.Error("box", b, ok)
	}
}

func TestHoweverBoxesWereAdded(t *testing.T) {
	l := mixed(300, 60, 6)
	for _, step := range []int{1, 2, 7, 100, 299, 300} {
		x := New(l[:step]...)
		for i := step; i < len(l); i += step {
			// what is asked on the way changes nothing.
			x.Pairs()
			x.Find(l[i])
			end := min(i+step, len(l))
			if n := x.Add(l[i:end]...); n != end {
				t.Fatal(step, n)
			}
		}
		checkIndex(t, x, l)
	}
}

func TestIndexGrows(t *testing.T) {
	l := append(mixed(60, 10, 4), wrong()...)
	x := New()
	for i, b := range l {
		x.Add(b)
		checkIndex(t, x, l[:i+1])
	}
}

// with all numbers so many times as great the same boxes meet.
func TestHoweverGreatBoxesAre(t *testing.T) {
	l := mixed(400, 100, 6)
	want := New(l...).Pairs()
	for _, k := range []int{2, 3, 7, 8, 9, 64, 1000, 4096, 65536, 100000} {
		var scaled []Box
		for _, b := range l {
			scaled = append(scaled, bx(k*b.Low.X, k*b.Low.Y, k*b.High.X, k*b.High.Y))
		}
		if got := New(scaled...).Pairs(); !slices.Equal(got, want) {
			t.Error(k, len(got), len(want))
		}
	}
}

func TestWhereverBoxesLie(t *testing.T) {
	l := mixed(400, 100, 6)
	want := New(l...).Pairs()
	for _, by := range []api.Point{pt(1, 0), pt(0, -7), pt(64, 100), pt(api.Bound-300, 300-api.Bound), pt(-1<<20, 1<<13)} {
		var moved []Box
		for _, b := range l {
			moved = append(moved, bx(b.Low.X+by.X, b.Low.Y+by.Y, b.High.X+by.X, b.High.Y+by.Y))
		}
		if got := New(moved...).Pairs(); !slices.Equal(got, want) {
			t.Error(by, len(got), len(want))
		}
	}
}

// over each thin box as wide as can be lie points; one great box has all: it
// ends soon, though the boxes have more points than could be gone through.
func TestManyGreatBoxes(t *testing.T) {
	const n = 20000
	far := api.Bound
	l := []Box{bx(-far, -far, far, far)}
	var want [][2]int
	for i := 1; i < n; i += 2 {
		l = append(l, bx(-far, 2*i, far, 2*i), bx(i, 2*i, i, 2*i))
	}
	for i := 1; i < len(l); i++ {
		want = append(want, [2]int{0, i})
	}
	for i := 1; i < len(l); i += 2 {
		want = append(want, [2]int{i, i + 1})
	}
	x := New(l...)
	if got := x.Pairs(); !slices.Equal(got, want) {
		t.Error("pairs", len(got), len(want))
	}
	if got := x.Find(l[0]); len(got) != len(l) || !slices.IsSorted(got) {
		t.Error("find", len(got))
	}
	if got := x.At(pt(5, 2)); !slices.Equal(got, []int{0, 1}) {
		t.Error("at", got)
	}
}

// P1 and P2: memory

// whole answers boxes with spare room behind them, which has boxes, too.
func whole() []Box {
	return []Box{bx(0, 0, 2, 2), bx(2, 2, 3, 3), bx(1, 0, 0, 0), bx(5, 0, 6, 1), bx(0, 0, 9, 9), bx(-1, -1, 9, 9)}
}

func TestBoxesHandedInStayAsTheyAre(t *testing.T) {
	for n := range len(whole()) {
		l := whole()
		x, y := New(l[:n]...), New()
		y.Add(l[:n]...)
		x.Add(bx(7, 7, 7, 7))
		y.Add(bx(7, 7, 7, 7))
		x.Pairs()
		if !slices.Equal(l, whole()) {
			t.Error("changed", n, l)
		}
		for i := range l {
			l[i] = bx(1, 1, 1, 1)
		}
		checkIndex(t, x, append(whole()[:n], bx(7, 7, 7, 7)))
		checkIndex(t, y, append(whole()[:n], bx(7, 7, 7, 7)))
	}
}

func TestPointsHandedInStayAsTheyAre(t *testing.T) {
	all := []api.Point{pt(3, 1), pt(1, 3), pt(2, 2), pt(9, 9)}
	l := slices.Clone(all)
	if b, ok := Of(l[:3]...); b != bx(1, 1, 3, 3) || !ok || !slices.Equal(l, all) {
		t.Error(b, ok, l)
	}
}

func TestAnswersAreNew(t *testing.T) {
	x := New(whole()...)
	found, again, pairs := x.Find(Box{}), x.Find(Box{}), x.Pairs()
	for i := range found {
		found[i] = -9
	}
	for i := range pairs {
		pairs[i] = [2]int{-9, -9}
	}
	_, _ = append(found, -8), append(pairs, [2]int{-8, -8})
	if !slices.Equal(again, plainFind(whole(), Box{})) {
		t.Error("shared", again)
	}
	checkIndex(t, x, whole())
}

func TestIndexesAreApart(t *testing.T) {
	x, y := New(whole()...), New(whole()...)
	x.Add(bx(0, 0, 9, 9))
	checkIndex(t, y, whole())
	checkIndex(t, x, append(whole(), bx(0, 0, 9, 9)))
}

func TestSameCallsSameAnswers(t *testing.T) {
	l := mixed(500, 2000, 12)
	x, y := New(l...), New(l...)
	for range 3 {
		if !slices.Equal(x.Pairs(), y.Pairs()) {
			t.Error("pairs")
		}
		for _, b := range l {
			if !slices.Equal(x.Find(b), y.Find(b)) || !slices.Equal(x.At(b.Low), y.At(b.Low)) {
				t.Error(b)
			}
		}
	}
}
