package exact

import (
	"math"
	"math/big"
	"testing"

	"graticule/api"
)

func pt(x, y int) api.Point { return api.Point{X: x, Y: y} }

// grid answers the points from (0,0) to (n-1,n-1).
func grid(n int) []api.Point {
	var l []api.Point
	for x := range n {
		for y := range n {
			l = append(l, pt(x, y))
		}
	}
	return l
}

// corners answers the points whose numbers are as far out as they may be, and
// the middle.
func corners() []api.Point {
	var l []api.Point
	for _, x := range []int{-api.Bound, 0, api.Bound} {
		for _, y := range []int{-api.Bound, 0, api.Bound} {
			l = append(l, pt(x, y))
		}
	}
	return l
}

// wrong answers points that may not be, by one number or by both.
func wrong() []api.Point {
	var l []api.Point
	for _, n := range []int{api.Bound + 1, -api.Bound - 1, math.MaxInt, math.MinInt, 1 << 32, -1 << 32} {
		l = append(l, pt(n, 0), pt(0, n), pt(n, n))
	}
	return l
}

// bigCross is the doubled area by numbers of any length.
func bigCross(a, b, c api.Point) *big.Int {
	sub := func(m, n int) *big.Int { return new(big.Int).Sub(big.NewInt(int64(m)), big.NewInt(int64(n))) }
	left := new(big.Int).Mul(sub(b.X, a.X), sub(c.Y, a.Y))
	return left.Sub(left, new(big.Int).Mul(sub(b.Y, a.Y), sub(c.X, a.X)))
}

// P1.1

func TestRight(t *testing.T) {
	if !Right() || !Right(nil...) {
		t.Error("no points")
	}
	if !Right(corners()...) {
		t.Error("corners")
	}
	for _, bad := range wrong() {
		if Right(bad) || Right(bad, pt(0, 0)) || Right(pt(0, 0), bad) || Right(pt(0, 0), bad, pt(1, 1)) {
			t.Error(bad)
		}
	}
}

func TestLess(t *testing.T) {
	rows := []struct {
		a, b api.Point
		less bool
	}{
		{pt(1, 9), pt(2, 0), true},
		{pt(2, 0), pt(1, 9), false},
		{pt(1, 1), pt(1, 2), true},
		{pt(1, 2), pt(1, 1), false},
		{pt(1, 1), pt(1, 1), false},
		{pt(-2, 0), pt(-1, 0), true},
		{pt(0, -2), pt(0, -1), true},
		{pt(math.MinInt, 0), pt(math.MaxInt, 0), true},
		{pt(math.MaxInt, 0), pt(math.MinInt, 0), false},
		{pt(0, math.MinInt), pt(0, math.MaxInt), true},
		{pt(0, math.MaxInt), pt(0, math.MinInt), false},
		{pt(api.Bound+1, 0), pt(api.Bound+2, 0), true},
	}
	for _, r := range rows {
		if Less(r.a, r.b) != r.less {
			t.Error(r)
		}
	}
}

func TestCross(t *testing.T) {
	if n := Cross(pt(0, 0), pt(4, 0), pt(0, 3)); n != 12 {
		t.Error(n)
	}
	if n := Cross(pt(-api.Bound, -api.Bound), pt(api.Bound, -api.Bound), pt(api.Bound, api.Bound)); n != 1<<50 {
		t.Error(n)
	}
	if n := Cross(pt(10, 20), pt(13, 21), pt(11, 25)); n != 14 {
		t.Error(n)
	}
	for _, l := range [][]api.Point{grid(4), corners()} {
		for _, a := range l {
			for _, b := range l {
				for _, c := range l {
					want := bigCross(a, b, c)
					if n := Cross(a, b, c); !want.IsInt64() || int64(n) != want.Int64() {
						t.Fatal(a, b, c, n)
					}
					if Turn(a, b, c) != want.Sign() {
						t.Fatal("turn", a, b, c)
					}
				}
			}
		}
	}
}

func TestCrossOfWrongPoints(t *testing.T) {
	a, b := pt(3, 1), pt(2, 7)
	for _, bad := range wrong() {
		if Cross(bad, a, b) != 0 || Cross(a, bad, b) != 0 || Cross(a, b, bad) != 0 {
			t.Error("cross", bad)
		}
		if Turn(bad, a, b) != 0 || Turn(a, bad, b) != 0 || Turn(a, b, bad) != 0 {
			t.Error("turn", bad)
		}
	}
}

// P1.2

// onByDot tells what On promises by other means: p sees a and b in opposite
// ways, or is one of them.
func onByDot(a, b, p api.Point) bool {
	dot := (a.X-p.X)*(b.X-p.X) + (a.Y-p.Y)*(b.Y-p.Y)
	return bigCross(a, b, p).Sign() == 0 && dot <= 0
}

func TestOn(t *testing.T) {
	l := grid(5)
	for _, a := range l {
		for _, b := range l {
			for _, p := range l {
				if On(a, b, p) != onByDot(a, b, p) {
					t.Fatal(a, b, p)
				}
			}
		}
	}
	low, high := pt(-api.Bound, -api.Bound), pt(api.Bound, api.Bound)
	if !On(low, high, pt(0, 0)) || !On(low, high, high) || !On(high, low, high) || On(low, high, pt(0, 1)) {
		t.Error("from corner to corner")
	}
	if On(pt(1, 1), pt(1, 1), pt(1, 2)) || On(pt(1, 1), pt(1, 1), pt(2, 2)) || !On(pt(1, 1), pt(1, 1), pt(1, 1)) {
		t.Error("one point")
	}
}

func TestOnOfWrongPoints(t *testing.T) {
	for _, bad := range wrong() {
		if On(bad, bad, bad) || On(bad, pt(0, 0), pt(0, 0)) || On(pt(0, 0), bad, pt(0, 0)) || On(pt(0, 0), pt(0, 0), bad) {
			t.Error(bad)
		}
	}
}

func abs(n int) int { return max(n, -n) }

// inByArea tells what InTriangle promises by other means: the three triangles
// that p makes with the sides are together no greater than the whole; of
// points on a line, p lies on the segment from the first in order to the last.
func inByArea(a, b, c, p api.Point) bool {
	area := func(a, b, c api.Point) int { return abs(int(bigCross(a, b, c).Int64())) }
	whole := area(a, b, c)
	if whole > 0 {
		return area(a, b, p)+area(b, c, p)+area(c, a, p) == whole
	}
	first, last := a, a
	for _, q := range []api.Point{b, c} {
		if Less(q, first) {
			first = q
		}
		if Less(last, q) {
			last = q
		}
	}
	return onByDot(first, last, p)
}

func TestInTriangle(t *testing.T) {
	l := grid(4)
	for _, a := range l {
		for _, b := range l {
			for _, c := range l {
				for _, p := range l {
					if InTriangle(a, b, c, p) != inByArea(a, b, c, p) {
						t.Fatal(a, b, c, p)
					}
				}
			}
		}
	}
}

func TestInTriangleAtTheBounds(t *testing.T) {
	l := corners()
	for _, a := range l {
		for _, b := range l {
			for _, c := range l {
				for _, p := range l {
					if InTriangle(a, b, c, p) != inByArea(a, b, c, p) {
						t.Fatal(a, b, c, p)
					}
				}
			}
		}
	}
}

func TestInTriangleOfWrongPoints(t *testing.T) {
	o, a, b := pt(0, 0), pt(api.Bound, 0), pt(0, api.Bound)
	for _, bad := range wrong() {
		if InTriangle(bad, a, b, o) || InTriangle(o, bad, b, o) || InTriangle(o, a, bad, o) || InTriangle(o, a, b, bad) {
			t.Error(bad)
		}
		if InTriangle(bad, bad, bad, bad) || InTriangle(o, o, o, bad) || InTriangle(o, o, bad, o) {
			t.Error("flat", bad)
		}
	}
}

func TestBox(t *testing.T) {
	rows := []struct {
		l         []api.Point
		low, high api.Point
	}{
		{[]api.Point{pt(3, 1), pt(1, 2), pt(2, 9)}, pt(1, 1), pt(3, 9)},
		{[]api.Point{pt(2, 9), pt(1, 2), pt(3, 1)}, pt(1, 1), pt(3, 9)},
		{[]api.Point{pt(5, 6)}, pt(5, 6), pt(5, 6)},
		{[]api.Point{pt(-5, -6), pt(-7, -4)}, pt(-7, -6), pt(-5, -4)},
		{corners(), pt(-api.Bound, -api.Bound), pt(api.Bound, api.Bound)},
	}
	for _, r := range rows {
		if low, high, ok := Box(r.l...); low != r.low || high != r.high || !ok {
			t.Error(r, low, high, ok)
		}
	}
}

func TestBoxOfNothingAndOfWrongPoints(t *testing.T) {
	lists := [][]api.Point{nil, {}}
	for _, bad := range wrong() {
		lists = append(lists, []api.Point{bad}, []api.Point{bad, pt(1, 1)}, []api.Point{pt(1, 1), bad}, []api.Point{pt(1, 1), bad, pt(2, 2)})
	}
	for _, l := range lists {
		if low, high, ok := Box(l...); low != pt(0, 0) || high != pt(0, 0) || ok {
			t.Error(l, low, high, ok)
		}
	}
}

func TestListsStayAsTheyAre(t *testing.T) {
	l := []api.Point{pt(3, 1), pt(1, 2), pt(9, 9)}
	Right(l[:2]...)
	Box(l[:2]...)
	if l[0] != pt(3, 1) || l[1] != pt(1, 2) || l[2] != pt(9, 9) {
		t.Error(l)
	}
}

// P1.3

// bigFloor is the quotient rounded downwards, by numbers of any length (whose
// Div goes downwards by a divisor above 0).
func bigFloor(n, d *big.Int) int {
	return int(new(big.Int).Div(n, d).Int64())
}

// bigRound is the nearest whole number: n/d + 1/2, rounded downwards.
func bigRound(n, d int) int {
	twice := new(big.Int).Lsh(big.NewInt(int64(n)), 1)
	twice.Add(twice, big.NewInt(int64(d)))
	return bigFloor(twice, new(big.Int).Lsh(big.NewInt(int64(d)), 1))
}

func checkQuotients(t *testing.T, n, d int) {
	t.Helper()
	if q, ok := Floor(n, d); !ok || q != bigFloor(big.NewInt(int64(n)), big.NewInt(int64(d))) {
		t.Error("floor", n, d, q, ok)
	}
	if q, ok := Round(n, d); !ok || q != bigRound(n, d) {
		t.Error("round", n, d, q, ok)
	}
}

func TestQuotients(t *testing.T) {
	for n := -40; n <= 40; n++ {
		for d := 1; d <= 13; d++ {
			checkQuotients(t, n, d)
		}
	}
	rows := []struct{ n, d, floor, round int }{{-1, 2, -1, 0}, {1, 2, 0, 1}, {-3, 2, -2, -1}, {3, 2, 1, 2}, {-5, 3, -2, -2}, {-4, 3, -2, -1}, {0, 1, 0, 0}}
	for _, r := range rows {
		floor, _ := Floor(r.n, r.d)
		round, _ := Round(r.n, r.d)
		if floor != r.floor || round != r.round {
			t.Error(r, floor, round)
		}
	}
}

func TestQuotientsAtTheBounds(t *testing.T) {
	const top = 1 << 60
	for _, n := range []int{-top, -top + 1, -top/2 - 1, -top / 2, -top/2 + 1, -1, 0, 1, top/2 - 1, top / 2, top/2 + 1, top - 1, top} {
		for _, d := range []int{1, 2, 3, 7, top/2 - 1, top / 2, top/2 + 1, top - 2, top - 1, top} {
			checkQuotients(t, n, d)
		}
	}
}

func TestQuotientsOfWrongNumbers(t *testing.T) {
	const top = 1 << 60
	rows := [][2]int{{1, 0}, {1, -1}, {7, -2}, {0, 0}, {1, top + 1}, {1, math.MaxInt}, {1, math.MinInt}, {top + 1, 1}, {-top - 1, 1}, {math.MaxInt, 2}, {math.MinInt, 2}, {math.MinInt, -1}}
	for _, r := range rows {
		if q, ok := Floor(r[0], r[1]); q != 0 || ok {
			t.Error("floor", r, q, ok)
		}
		if q, ok := Round(r[0], r[1]); q != 0 || ok {
			t.Error("round", r, q, ok)
		}
	}
}

func TestShift(t *testing.T) {
	for s := 0; s <= 20; s++ {
		for _, base := range []int{-api.Bound, -api.Bound / 2, -1 << 20, -1 << 19, -1 << 10, 0, 1 << 9, 1 << 19, 1 << 20, api.Bound / 2, api.Bound} {
			for v := max(base-9, -api.Bound); v <= min(base+9, api.Bound); v++ {
				if w, ok := Shift(v, s); !ok || w != bigRound(v, 1<<s) {
					t.Error(v, s, w, ok)
				}
			}
		}
	}
	for _, r := range [][3]int{{7, 2, 2}, {6, 2, 2}, {5, 2, 1}, {-6, 2, -1}, {-7, 2, -2}, {9, 0, 9}, {api.World, 4, api.Extent}, {api.Bound, 20, 16}, {1 << 19, 20, 1}, {-1 << 19, 20, 0}} {
		if w, ok := Shift(r[0], r[1]); w != r[2] || !ok {
			t.Error(r, w, ok)
		}
	}
}

func TestShiftOfWrongNumbers(t *testing.T) {
	for _, r := range [][2]int{{1, -1}, {1, 21}, {1, 64}, {1, math.MaxInt}, {1, math.MinInt}, {api.Bound + 1, 1}, {-api.Bound - 1, 1}, {api.Bound + 1, 0}, {math.MaxInt, 0}, {math.MinInt, 0}} {
		if w, ok := Shift(r[0], r[1]); w != 0 || ok {
			t.Error(r, w, ok)
		}
	}
}

// P1.4

func TestCrossTurnsAndGoesRound(t *testing.T) {
	for _, l := range [][]api.Point{grid(4), corners()} {
		for _, a := range l {
			for _, b := range l {
				for _, c := range l {
					n := Cross(a, b, c)
					if Cross(b, a, c) != -n || Cross(a, c, b) != -n || Cross(c, b, a) != -n {
						t.Fatal("changed", a, b, c)
					}
					if Cross(b, c, a) != n || Cross(c, a, b) != n {
						t.Fatal("round", a, b, c)
					}
				}
			}
		}
	}
}

func TestTriangleInAnyOrder(t *testing.T) {
	l := append(grid(3), pt(5, 1), pt(-api.Bound, api.Bound), pt(api.Bound+1, 0))
	for _, a := range l {
		for _, b := range l {
			for _, c := range l {
				for _, p := range l {
					in := InTriangle(a, b, c, p)
					for _, r := range [][3]api.Point{{a, c, b}, {b, a, c}, {b, c, a}, {c, a, b}, {c, b, a}} {
						if InTriangle(r[0], r[1], r[2], p) != in {
							t.Fatal(r, p)
						}
					}
				}
			}
		}
	}
}
