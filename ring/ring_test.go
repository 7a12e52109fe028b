package ring

import (
	"math"
	"math/big"
	"slices"
	"testing"

	"graticule/api"
	"graticule/exact"
)

func pt(x, y int) api.Point { return api.Point{X: x, Y: y} }

// grid answers the points from (0,0) to (n-1,n-1).
func grid(n int) []api.Point {
	var l []api.Point
	for x := range n {
		for y := range n {
			l = append(l, pt(x, y))
		}
	}
	return l
}

// wrong answers points that may not be, by one number or by both.
func wrong() []api.Point {
	var l []api.Point
	for _, n := range []int{api.Bound + 1, -api.Bound - 1, math.MaxInt, math.MinInt, 1 << 32, -1 << 32} {
		l = append(l, pt(n, 0), pt(0, n), pt(n, n))
	}
	return l
}

// rings gives all lists of n of these points, each to be used at once.
func rings(of []api.Point, n int, use func(l []api.Point)) {
	if n == 0 {
		use(nil)
		return
	}
	rings(of, n-1, func(l []api.Point) {
		for _, p := range of {
			use(append(l[:n-1:n-1], p))
		}
	})
}

// begun answers the ring, begun at its point k.
func begun(l []api.Point, k int) []api.Point {
	return append(append([]api.Point{}, l[k:]...), l[:k]...)
}

func square() []api.Point { return []api.Point{pt(0, 0), pt(4, 0), pt(4, 4), pt(0, 4)} }

// star goes twice round its middle, (0,0).
func star() []api.Point {
	return []api.Point{pt(0, 10), pt(-6, -8), pt(10, 3), pt(-10, 3), pt(6, -8)}
}

// P3.1

// bigArea is the doubled area by the ends of each edge with (0,0), and numbers
// of any length.
func bigArea(l []api.Point) *big.Int {
	sum := new(big.Int)
	mul := func(m, n int) *big.Int { return new(big.Int).Mul(big.NewInt(int64(m)), big.NewInt(int64(n))) }
	for i, p := range l {
		q := l[(i+1)%len(l)]
		sum.Add(sum, mul(p.X, q.Y))
		sum.Sub(sum, mul(p.Y, q.X))
	}
	return sum
}

func TestArea(t *testing.T) {
	far := api.Bound
	rows := []struct {
		l    []api.Point
		area int
	}{
		{square(), 32},
		{Turned(square()), -32},
		{[]api.Point{pt(0, 0), pt(4, 0), pt(0, 3)}, 12},
		{[]api.Point{pt(10, 10), pt(10, 13), pt(14, 10)}, -12},
		{[]api.Point{pt(0, 0), pt(4, 4), pt(4, 0), pt(0, 4)}, 0},
		{[]api.Point{pt(0, 0), pt(0, 0), pt(4, 0), pt(4, 0), pt(0, 3), pt(0, 0)}, 12},
		{append(square(), square()...), 64},
		{[]api.Point{pt(0, 0), pt(2, 2), pt(5, 5)}, 0},
		{[]api.Point{pt(3, 3), pt(3, 3), pt(3, 3)}, 0},
		{[]api.Point{pt(-far, -far), pt(far, -far), pt(far, far), pt(-far, far)}, 1 << 51},
		{[]api.Point{pt(1, 2), pt(3, 4)}, 0},
		{[]api.Point{pt(1, 2)}, 0},
		{[]api.Point{}, 0},
		{nil, 0},
	}
	for _, r := range rows {
		if area := Area(r.l); area != r.area {
			t.Error(r, area)
		}
	}
}

func TestAreaOfAll(t *testing.T) {
	for n := 3; n <= 5; n++ {
		rings(grid(3), n, func(l []api.Point) {
			if want := bigArea(l); Area(l) != int(want.Int64()) {
				t.Fatal(l, Area(l), want)
			}
			large := Scaled(Moved(l, pt(-1, -1)), api.Bound)
			if want := bigArea(large); !want.IsInt64() || Area(large) != int(want.Int64()) {
				t.Fatal(large, Area(large), want)
			}
		})
	}
}

func TestAreaOfWrongPoints(t *testing.T) {
	for _, bad := range wrong() {
		for i := range square() {
			l := square()
			l[i] = bad
			if Area(l) != 0 || Area(append(square(), bad)) != 0 {
				t.Error(l, Area(l))
			}
		}
	}
}

// P3.3

// thinned tells what Thin promises by other means: point by point.
func thinned(l []api.Point) []api.Point {
	var thin []api.Point
	for i, p := range l {
		if i == 0 || p != l[i-1] {
			thin = append(thin, p)
		}
	}
	for len(thin) > 1 && thin[len(thin)-1] == thin[0] {
		thin = thin[:len(thin)-1]
	}
	return thin
}

func TestThin(t *testing.T) {
	a, b, c := pt(1, 1), pt(0, 7), pt(math.MaxInt, math.MinInt)
	rows := [][2][]api.Point{
		{{a, b, c}, {a, b, c}},
		{{a, a, b, b, b, c}, {a, b, c}},
		{{a, b, c, a}, {a, b, c}},
		{{a, b, c, a, a}, {a, b, c}},
		{{a, a, b, a, a}, {a, b}},
		{{a, b, a, b}, {a, b, a, b}},
		{{a, b, a, c}, {a, b, a, c}},
		{{b, b, b, b}, {b}},
		{{a, a}, {a}},
		{{c}, {c}},
		{{}, {}},
		{nil, nil},
	}
	for _, r := range rows {
		if thin := Thin(r[0]); !slices.Equal(thin, r[1]) {
			t.Error(r, thin)
		}
	}
	for n := range 7 {
		rings([]api.Point{a, b, c}, n, func(l []api.Point) {
			if thin := Thin(l); !slices.Equal(thin, thinned(l)) {
				t.Fatal(l, thin)
			}
		})
	}
}

func TestTurned(t *testing.T) {
	a, b, c, d := pt(1, 1), pt(0, 7), pt(math.MaxInt, math.MinInt), pt(1, 1)
	rows := [][2][]api.Point{
		{{a, b, c, d}, {a, d, c, b}},
		{{b, c, a}, {b, a, c}},
		{{a, b}, {a, b}},
		{{b}, {b}},
		{{}, {}},
		{nil, nil},
	}
	for _, r := range rows {
		if turned := Turned(r[0]); !slices.Equal(turned, r[1]) {
			t.Error(r, turned)
		}
		if again := Turned(Turned(r[0])); !slices.Equal(again, r[0]) {
			t.Error(r, again)
		}
	}
}

func TestFirst(t *testing.T) {
	a, b, c, d := pt(1, 9), pt(1, 1), pt(2, -5), pt(math.MinInt, math.MaxInt)
	rows := [][2][]api.Point{
		{{a, b, c}, {b, c, a}},
		{{b, c, a}, {b, c, a}},
		{{c, a, b}, {b, c, a}},
		{{a, b, c, b, a}, {b, c, b, a, a}},
		{{b, b, a}, {b, b, a}},
		{{b, a, b}, {b, a, b}},
		{{a, c, d}, {d, a, c}},
		{{c, c}, {c, c}},
		{{d}, {d}},
		{{}, {}},
		{nil, nil},
	}
	for _, r := range rows {
		if first := First(r[0]); !slices.Equal(first, r[1]) {
			t.Error(r, first)
		}
	}
	for n := 1; n < 6; n++ {
		rings(grid(2), n, func(l []api.Point) {
			k := slices.Index(l, slices.MinFunc(l, func(p, q api.Point) int {
				if exact.Less(p, q) {
					return -1
				}
				return 1
			}))
			if first := First(l); !slices.Equal(first, begun(l, k)) {
				t.Fatal(l, first)
			}
		})
	}
}

// alikeByTrying tells what Alike promises by other means: begun at each point.
func alikeByTrying(a, b []api.Point) bool {
	if len(a) == 0 && len(b) == 0 {
		return true
	}
	for k := range a {
		if slices.Equal(begun(a, k), b) {
			return true
		}
	}
	return false
}

func TestAlike(t *testing.T) {
	a, b, c, d := pt(1, 9), pt(1, 1), pt(2, -5), pt(math.MinInt, math.MaxInt)
	rows := []struct {
		a, b  []api.Point
		alike bool
	}{
		{[]api.Point{a, b, c, d}, []api.Point{a, b, c, d}, true},
		{[]api.Point{a, b, c, d}, []api.Point{c, d, a, b}, true},
		{[]api.Point{a, b, c, d}, []api.Point{d, c, b, a}, false},
		{[]api.Point{a, b, c}, []api.Point{a, b, c, d}, false},
		{[]api.Point{a, b, c, d}, []api.Point{a, b, c}, false},
		{[]api.Point{a, b}, []api.Point{a, b, a, b}, false},
		{[]api.Point{b, a, b, c}, []api.Point{b, c, b, a}, true},
		{[]api.Point{a, a, b}, []api.Point{a, b, b}, false},
		{[]api.Point{d}, []api.Point{d}, true},
		{[]api.Point{d}, []api.Point{c}, false},
		{[]api.Point{d}, nil, false},
		{nil, []api.Point{d}, false},
		{nil, []api.Point{}, true},
		{nil, nil, true},
	}
	for _, r := range rows {
		if Alike(r.a, r.b) != r.alike {
			t.Error(r)
		}
	}
	for n := range 6 {
		rings([]api.Point{a, b, c}, n, func(l []api.Point) {
			l = slices.Clone(l)
			rings([]api.Point{a, b, c}, n, func(m []api.Point) {
				if Alike(l, m) != alikeByTrying(l, m) {
					t.Fatal(l, m)
				}
			})
		})
	}
}

func TestMoved(t *testing.T) {
	rows := []struct {
		l    []api.Point
		by   api.Point
		want []api.Point
	}{
		{[]api.Point{pt(1, 2), pt(-3, 4), pt(1, 2)}, pt(10, -20), []api.Point{pt(11, -18), pt(7, -16), pt(11, -18)}},
		{square(), pt(0, 0), square()},
		{[]api.Point{pt(api.Bound, -api.Bound)}, pt(1, -1), []api.Point{pt(api.Bound+1, -api.Bound-1)}},
		{[]api.Point{pt(math.MaxInt, math.MinInt)}, pt(1, -1), []api.Point{pt(math.MinInt, math.MaxInt)}},
		{[]api.Point{pt(5, 6)}, pt(math.MinInt, math.MaxInt), []api.Point{pt(math.MinInt+5, math.MinInt+5)}},
		{[]api.Point{}, pt(1, 1), nil},
		{nil, pt(1, 1), nil},
	}
	for _, r := range rows {
		if moved := Moved(r.l, r.by); !slices.Equal(moved, r.want) {
			t.Error(r, moved)
		}
	}
}

func TestScaled(t *testing.T) {
	rows := []struct {
		l    []api.Point
		k    int
		want []api.Point
	}{
		{[]api.Point{pt(1, 2), pt(-3, 4), pt(1, 2)}, 5, []api.Point{pt(5, 10), pt(-15, 20), pt(5, 10)}},
		{[]api.Point{pt(1, 2), pt(-3, 4)}, -1, []api.Point{pt(-1, -2), pt(3, -4)}},
		{[]api.Point{pt(1, 2), pt(-3, 4)}, 0, []api.Point{pt(0, 0), pt(0, 0)}},
		{square(), 1, square()},
		{[]api.Point{pt(api.Bound, -api.Bound)}, 2, []api.Point{pt(2*api.Bound, -2*api.Bound)}},
		{[]api.Point{pt(math.MaxInt, math.MinInt)}, 2, []api.Point{pt(-2, 0)}},
		{[]api.Point{pt(math.MinInt, 1)}, -1, []api.Point{pt(math.MinInt, -1)}},
		{[]api.Point{}, 3, nil},
		{nil, 3, nil},
	}
	for _, r := range rows {
		if scaled := Scaled(r.l, r.k); !slices.Equal(scaled, r.want) {
			t.Error(r, scaled)
		}
	}
}

func TestRingsStayAsTheyAre(t *testing.T) {
	calls := []func(l []api.Point) []api.Point{
		Thin,
		Turned,
		First,
		func(l []api.Point) []api.Point { return Moved(l, pt(1, 1)) },
		func(l []api.Point) []api.Point { return Moved(l, pt(0, 0)) },
		func(l []api.Point) []api.Point { return Scaled(l, 2) },
		func(l []api.Point) []api.Point { return Scaled(l, 1) },
		func(l []api.Point) []api.Point { Alike(l, l); Simple(l); Area(l); return nil },
		func(l []api.Point) []api.Point { Winding(l, pt(0, 0)); Beside(l, pt(0, 0), pt(1, 0)); return nil },
	}
	all := []api.Point{pt(3, 3), pt(3, 3), pt(1, 1), pt(2, 0), pt(3, 3), pt(9, 9), pt(0, 0)}
	for i, call := range calls {
		for n := range 6 {
			l := slices.Clone(all)
			answer := call(l[:n])
			if !slices.Equal(l, all) {
				t.Error("changed", i, n, l)
			}
			kept := slices.Clone(answer)
			for k := range l {
				l[k] = pt(-7, -7)
			}
			if !slices.Equal(answer, kept) {
				t.Error("kept", i, n)
			}
			for k := range answer {
				answer[k] = pt(8, 8)
			}
			_ = append(answer, pt(8, 8))
			if slices.Contains(l, pt(8, 8)) {
				t.Error("shared", i, n)
			}
		}
	}
}
