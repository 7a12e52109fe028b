package ring

import (
	"math"
	"testing"

	"graticule/api"
)

// onByDot tells whether p lies on the segment from a to b: it sees them in
// opposite ways, or is one of them.
func onByDot(a, b, p api.Point) bool {
	cross := (a.X-p.X)*(b.Y-p.Y) - (a.Y-p.Y)*(b.X-p.X)
	dot := (a.X-p.X)*(b.X-p.X) + (a.Y-p.Y)*(b.Y-p.Y)
	return cross == 0 && dot <= 0
}

// turnsByAngles is how often the ring goes round a point that lies on no edge:
// all that it turns by, seen from there.
func turnsByAngles(l []api.Point, p api.Point) int {
	sum := 0.0
	for i, a := range l {
		b := l[(i+1)%len(l)]
		cross := (a.X-p.X)*(b.Y-p.Y) - (a.Y-p.Y)*(b.X-p.X)
		dot := (a.X-p.X)*(b.X-p.X) + (a.Y-p.Y)*(b.Y-p.Y)
		sum += math.Atan2(float64(cross), float64(dot))
	}
	return int(math.Round(sum / (2 * math.Pi)))
}

// P3.2: Winding

// windingByAngles tells what Winding promises by other means.
func windingByAngles(l []api.Point, p api.Point) (int, bool) {
	for i, a := range l {
		if onByDot(a, l[(i+1)%len(l)], p) {
			return 0, false
		}
	}
	return turnsByAngles(l, p), true
}

func TestWindingOfAll(t *testing.T) {
	places := Moved(grid(7), pt(-1, -1))
	for n := range 5 {
		rings(Scaled(grid(3), 2), n, func(l []api.Point) {
			for _, p := range places {
				turns, ok := Winding(l, p)
				if want, is := windingByAngles(l, p); turns != want || ok != is {
					t.Fatal(l, p, turns, ok)
				}
			}
		})
	}
}

func TestWindingOfLongerRings(t *testing.T) {
	ends := []api.Point{pt(0, 0), pt(6, 1), pt(1, 6), pt(5, 5)}
	met := map[int]bool{}
	for n := 5; n <= 7; n++ {
		rings(ends, n, func(l []api.Point) {
			for _, p := range []api.Point{pt(3, 3), pt(3, 2), pt(4, 4), pt(1, 1), pt(7, 7), pt(2, 5)} {
				turns, ok := Winding(l, p)
				if want, is := windingByAngles(l, p); turns != want || ok != is {
					t.Fatal(l, p, turns, ok)
				}
				met[turns] = true
			}
		})
	}
	if !met[2] || !met[-2] {
		t.Error("turns met", met)
	}
}

func TestWinding(t *testing.T) {
	far := api.Bound
	half := []api.Point{pt(-far, -far), pt(far, -far), pt(far, far)}
	rows := []struct {
		l     []api.Point
		p     api.Point
		turns int
		ok    bool
	}{
		{square(), pt(2, 2), 1, true},
		{Turned(square()), pt(2, 2), -1, true},
		{square(), pt(4, 2), 0, false},
		{square(), pt(4, 4), 0, false},
		{square(), pt(5, 2), 0, true},
		{square(), pt(-1, 4), 0, true},
		{square(), pt(-1, 0), 0, true},
		{star(), pt(0, 0), 2, true},
		{star(), pt(0, 8), 1, true},
		{Turned(star()), pt(0, 0), -2, true},
		{append(square(), square()...), pt(1, 1), 2, true},
		{append(square(), Turned(square())...), pt(1, 1), 0, true},
		{[]api.Point{pt(0, 0), pt(0, 0), pt(4, 0), pt(4, 4), pt(4, 4), pt(0, 0)}, pt(3, 1), 1, true},
		{[]api.Point{pt(0, 0), pt(4, 0)}, pt(2, 0), 0, false},
		{[]api.Point{pt(0, 0), pt(4, 0)}, pt(2, 1), 0, true},
		{[]api.Point{pt(3, 3)}, pt(3, 3), 0, false},
		{[]api.Point{pt(3, 3)}, pt(3, 4), 0, true},
		{[]api.Point{pt(3, 3), pt(3, 3)}, pt(3, 3), 0, false},
		{[]api.Point{}, pt(3, 3), 0, true},
		{nil, pt(far, -far), 0, true},
		{half, pt(0, 0), 0, false},
		{half, pt(0, -1), 1, true},
		{half, pt(0, 1), 0, true},
		{half, pt(far-1, far-2), 1, true},
		{half, pt(far-2, far-1), 0, true},
		{half, pt(far, far), 0, false},
		{half, pt(-far, far), 0, true},
	}
	for _, r := range rows {
		if turns, ok := Winding(r.l, r.p); turns != r.turns || ok != r.ok {
			t.Error(r, turns, ok)
		}
	}
}

func TestWindingOfWrongPoints(t *testing.T) {
	for _, bad := range wrong() {
		for _, l := range [][]api.Point{nil, square(), {bad}, {pt(0, 0)}} {
			if turns, ok := Winding(l, bad); turns != 0 || ok {
				t.Error(l, bad, turns, ok)
			}
		}
		for i := range square() {
			l := square()
			l[i] = bad
			for _, p := range []api.Point{pt(2, 2), pt(9, 9), pt(2, 0)} {
				if turns, ok := Winding(l, p); turns != 0 || ok {
					t.Error(l, p, turns, ok)
				}
			}
		}
		if turns, ok := Winding([]api.Point{bad}, pt(0, 0)); turns != 0 || ok {
			t.Error(bad, turns, ok)
		}
	}
}

// P3.2: Beside

// besideByAngles tells what Beside promises by other means: all is so much
// greater that the middle is a point, and one a little to the left of it too,
// with nothing between.
func besideByAngles(l []api.Point, a, b api.Point) (int, bool) {
	const half = 1000
	middle := pt((a.X+b.X)*half, (a.Y+b.Y)*half)
	large := Scaled(l, 2*half)
	for i, c := range l {
		d := l[(i+1)%len(l)]
		line := (d.X-c.X)*(b.Y-a.Y) == (d.Y-c.Y)*(b.X-a.X)
		if !line && onByDot(large[i], large[(i+1)%len(l)], middle) {
			return 0, false
		}
	}
	return turnsByAngles(large, pt(middle.X-(b.Y-a.Y), middle.Y+b.X-a.X)), true
}

func checkBeside(t *testing.T, l, ends []api.Point) {
	t.Helper()
	for _, a := range ends {
		for _, b := range ends {
			if a == b {
				continue
			}
			turns, ok := Beside(l, a, b)
			if want, is := besideByAngles(l, a, b); turns != want || ok != is {
				t.Fatal(l, a, b, turns, ok, want, is)
			}
		}
	}
}

func TestBesideOfAll(t *testing.T) {
	for n := range 4 {
		rings(grid(3), n, func(l []api.Point) { checkBeside(t, l, Moved(grid(5), pt(-1, -1))) })
	}
	rings(grid(3), 4, func(l []api.Point) { checkBeside(t, l, grid(3)) })
}

func TestBesideOfLongerRings(t *testing.T) {
	ends := []api.Point{pt(0, 0), pt(6, 1), pt(1, 6), pt(5, 5)}
	for n := 5; n <= 6; n++ {
		rings(ends, n, func(l []api.Point) { checkBeside(t, l, append(ends, pt(2, 2), pt(4, 3), pt(3, 4))) })
	}
}

func TestBeside(t *testing.T) {
	rows := []struct {
		l     []api.Point
		a, b  api.Point
		turns int
		ok    bool
	}{
		{square(), pt(0, 0), pt(4, 0), 1, true},
		{square(), pt(4, 0), pt(0, 0), 0, true},
		{square(), pt(4, 0), pt(4, 4), 1, true},
		{square(), pt(4, 4), pt(4, 0), 0, true},
		{Turned(square()), pt(0, 0), pt(4, 0), -1, true},
		{square(), pt(1, 0), pt(2, 0), 1, true},
		{square(), pt(3, 0), pt(9, 0), 0, true},
		{square(), pt(-4, 0), pt(4, 0), 0, false},
		{square(), pt(-2, 2), pt(2, 2), 0, false},
		{square(), pt(-4, 4), pt(4, -4), 0, false},
		{square(), pt(1, 1), pt(2, 3), 1, true},
		{square(), pt(5, 5), pt(6, 6), 0, true},
		{square(), pt(0, 0), pt(4, 4), 1, true},
		{[]api.Point{pt(0, 0), pt(1, 0), pt(4, 0), pt(4, 4)}, pt(0, 0), pt(2, 0), 1, true},
		{append(square(), square()...), pt(0, 0), pt(4, 0), 2, true},
		{append(square(), Turned(square())...), pt(0, 0), pt(4, 0), 0, true},
		{[]api.Point{pt(0, 0), pt(4, 0)}, pt(0, 0), pt(4, 0), 0, true},
		{[]api.Point{pt(0, 0), pt(4, 0)}, pt(2, 2), pt(2, -2), 0, false},
		{[]api.Point{pt(2, 0)}, pt(0, 0), pt(4, 0), 0, true},
		{[]api.Point{pt(0, 0), pt(2, 0), pt(2, 0), pt(4, 0), pt(4, 4)}, pt(1, 0), pt(3, 0), 1, true},
		{nil, pt(0, 0), pt(4, 0), 0, true},
		{[]api.Point{}, pt(0, 0), pt(0, 1), 0, true},
	}
	for _, r := range rows {
		if turns, ok := Beside(r.l, r.a, r.b); turns != r.turns || ok != r.ok {
			t.Error(r, turns, ok)
		}
	}
}

func TestBesideAtTheBounds(t *testing.T) {
	ends := Moved(grid(3), pt(-1, -1))
	for n := 3; n <= 4; n++ {
		rings(ends, n, func(l []api.Point) {
			large := Scaled(l, api.Bound)
			for _, a := range ends {
				for _, b := range ends {
					turns, ok := Beside(l, a, b)
					if far, is := Beside(large, pt(a.X*api.Bound, a.Y*api.Bound), pt(b.X*api.Bound, b.Y*api.Bound)); far != turns || is != ok {
						t.Fatal(l, a, b, far, is)
					}
				}
			}
		})
	}
	far := api.Bound
	half := []api.Point{pt(-far, -far), pt(far, -far), pt(far, far)}
	rows := []struct {
		a, b  api.Point
		turns int
		ok    bool
	}{
		{pt(far, far), pt(-far, -far), 1, true},
		{pt(-far, -far), pt(far, far), 0, true},
		{pt(-far, -far), pt(far, far-1), 1, true},
		{pt(far, far-1), pt(-far, -far), 1, true},
		{pt(-far, 1-far), pt(far, far), 0, true},
		{pt(far, far), pt(-far, 1-far), 0, true},
		{pt(-far, 1-far), pt(far, far-1), 0, false},
		{pt(0, 0), pt(1, 0), 1, true},
		{pt(0, 0), pt(0, 1), 0, true},
		{pt(0, 1), pt(1, 0), 0, false},
	}
	for _, r := range rows {
		if turns, ok := Beside(half, r.a, r.b); turns != r.turns || ok != r.ok {
			t.Error(r, turns, ok)
		}
	}
}

func TestBesideErrors(t *testing.T) {
	o := pt(0, 0)
	for _, l := range [][]api.Point{nil, square(), {o}} {
		if turns, ok := Beside(l, pt(2, 2), pt(2, 2)); turns != 0 || ok {
			t.Error("one point", l, turns, ok)
		}
	}
	for _, bad := range wrong() {
		for _, l := range [][]api.Point{nil, square(), {bad}} {
			for _, r := range [][2]api.Point{{bad, o}, {o, bad}, {bad, bad}, {bad, pt(-bad.X, -bad.Y)}} {
				if turns, ok := Beside(l, r[0], r[1]); turns != 0 || ok {
					t.Error(l, r, turns, ok)
				}
			}
		}
		for i := range square() {
			l := square()
			l[i] = bad
			if turns, ok := Beside(l, o, pt(4, 0)); turns != 0 || ok {
				t.Error(l, turns, ok)
			}
		}
		if turns, ok := Beside([]api.Point{bad}, o, pt(4, 0)); turns != 0 || ok {
			t.Error(bad, turns, ok)
		}
	}
}

// P3.4

func TestSimpleRingsGoRoundOnce(t *testing.T) {
	for n := 3; n <= 5; n++ {
		rings(Scaled(grid(3), 2), n, func(l []api.Point) {
			if !Simple(l) {
				return
			}
			way := 1
			if Area(l) < 0 {
				way = -1
			}
			for _, p := range grid(5) {
				if turns, _ := Winding(l, p); turns != 0 && turns != way {
					t.Fatal(l, p, turns)
				}
			}
			for i, a := range l {
				b := l[(i+1)%n]
				left, ok := Beside(l, a, b)
				right, is := Beside(l, b, a)
				if left != max(way, 0) || right != min(way, 0) || !ok || !is {
					t.Fatal(l, a, b, left, right)
				}
			}
		})
	}
}

// same tells whether two rings have areas alike, but for the sign, and go
// round p and q, and beside a to b and c to d, as often.
func same(l, m []api.Point, sign int, from, to [3]api.Point) bool {
	turns, ok := Winding(l, from[0])
	others, is := Winding(m, to[0])
	left, told := Beside(l, from[1], from[2])
	lefts, tells := Beside(m, to[1], to[2])
	return Area(m) == sign*Area(l) && others == sign*turns && is == ok && lefts == sign*left && tells == told
}

func TestRingsTurnedBegunElsewhereAndMoved(t *testing.T) {
	by := pt(api.Bound-2, -api.Bound)
	shift := func(p api.Point) api.Point { return pt(p.X+by.X, p.Y+by.Y) }
	places := [][3]api.Point{{pt(1, 1), pt(0, 0), pt(1, 1)}, {pt(0, 1), pt(2, 2), pt(0, 2)}, {pt(2, 1), pt(1, 0), pt(1, 2)}, {pt(0, 0), pt(0, 1), pt(1, 2)}}
	for n := 1; n <= 5; n++ {
		rings(grid(3), n, func(l []api.Point) {
			for _, r := range places {
				if !same(l, Turned(l), -1, r, r) {
					t.Fatal("turned", l, r)
				}
				if k := (r[0].X + r[2].Y) % n; !same(l, begun(l, k), 1, r, r) || !same(l, First(l), 1, r, r) {
					t.Fatal("begun", l, r)
				}
				if !same(l, Moved(l, by), 1, r, [3]api.Point{shift(r[0]), shift(r[1]), shift(r[2])}) {
					t.Fatal("moved", l, r)
				}
			}
		})
	}
}
