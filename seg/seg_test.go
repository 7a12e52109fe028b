package seg

import (
	"math"
	"math/big"
	"slices"
	"testing"

	"graticule/api"
)

func pt(x, y int) api.Point { return api.Point{X: x, Y: y} }

// grid answers the points from (0,0) to (n-1,n-1).
func grid(n int) []api.Point {
	var l []api.Point
	for x := range n {
		for y := range n {
			l = append(l, pt(x, y))
		}
	}
	return l
}

// corners answers the points whose numbers are as far out as they may be, and
// the middle.
func corners() []api.Point {
	var l []api.Point
	for _, x := range []int{-api.Bound, 0, api.Bound} {
		for _, y := range []int{-api.Bound, 0, api.Bound} {
			l = append(l, pt(x, y))
		}
	}
	return l
}

// wrong answers points that may not be, by one number or by both.
func wrong() []api.Point {
	var l []api.Point
	for _, n := range []int{api.Bound + 1, -api.Bound - 1, math.MaxInt, math.MinInt, 1 << 32, -1 << 32} {
		l = append(l, pt(n, 0), pt(0, n), pt(n, n))
	}
	return l
}

func rat(n, d int) *big.Rat { return big.NewRat(int64(n), int64(d)) }

// rounded is the nearest whole number, of two as near the greater one.
func rounded(r *big.Rat) int {
	twice := new(big.Rat).Add(r, rat(1, 2))
	return int(new(big.Int).Div(twice.Num(), twice.Denom()).Int64())
}

// P2.1

// classByRests tells what Class promises by other means: the places of the
// common points on the first segment, from 0 at a to 1 at b, and on the second.
func classByRests(a, b, c, d api.Point) int {
	abx, aby, cdx, cdy := b.X-a.X, b.Y-a.Y, d.X-c.X, d.Y-c.Y
	acx, acy := c.X-a.X, c.Y-a.Y
	det := abx*cdy - aby*cdx
	if det != 0 {
		return classByPlaces(rat(acx*cdy-acy*cdx, det), rat(acx*aby-acy*abx, det))
	}
	if acx*aby != acy*abx {
		return Apart
	}
	place := func(p api.Point) *big.Rat {
		return rat((p.X-a.X)*abx+(p.Y-a.Y)*aby, abx*abx+aby*aby)
	}
	low, high := place(c), place(d)
	if low.Cmp(high) > 0 {
		low, high = high, low
	}
	zero, one := rat(0, 1), rat(1, 1)
	if low.Cmp(zero) == 0 && high.Cmp(one) == 0 {
		return Same
	}
	if low.Cmp(one) == 0 || high.Cmp(zero) == 0 {
		return Touch
	}
	if low.Cmp(one) > 0 || high.Cmp(zero) < 0 {
		return Apart
	}
	return Overlap
}

// classByPlaces is the class of two segments of unlike ways, by the place of
// the common point of their lines on each of them.
func classByPlaces(on, off *big.Rat) int {
	ends := 0
	for _, r := range []*big.Rat{on, off} {
		low, high := r.Sign(), r.Cmp(rat(1, 1))
		if low < 0 || high > 0 {
			return Apart
		}
		if low == 0 || high == 0 {
			ends++
		}
	}
	return []int{Cross, Tee, Touch}[ends]
}

func TestClassOfAll(t *testing.T) {
	met := map[int]bool{}
	for _, l := range [][]api.Point{grid(4), corners()} {
		for _, a := range l {
			for _, b := range l {
				for _, c := range l {
					for _, d := range l {
						class, err := Class(a, b, c, d)
						if a == b || c == d {
							if class != 0 || err != api.ErrArg {
								t.Fatal(a, b, c, d, class, err)
							}
							continue
						}
						if class != classByRests(a, b, c, d) || err != api.OK {
							t.Fatal(a, b, c, d, class, err)
						}
						met[class] = true
					}
				}
			}
		}
	}
	if len(met) != 6 {
		t.Error("classes met", met)
	}
}

func TestClass(t *testing.T) {
	far := api.Bound
	rows := []struct {
		a, b, c, d api.Point
		class      int
	}{
		{pt(0, 0), pt(4, 4), pt(0, 4), pt(4, 0), Cross},
		{pt(0, 0), pt(4, 0), pt(2, 0), pt(2, 3), Tee},
		{pt(0, 0), pt(4, 0), pt(4, 0), pt(4, 3), Touch},
		{pt(0, 0), pt(2, 0), pt(2, 0), pt(5, 0), Touch},
		{pt(0, 0), pt(2, 2), pt(3, 3), pt(5, 5), Apart},
		{pt(0, 0), pt(4, 0), pt(0, 1), pt(4, 1), Apart},
		{pt(0, 0), pt(4, 0), pt(5, 0), pt(6, 1), Apart},
		{pt(0, 0), pt(4, 0), pt(1, 0), pt(3, 0), Overlap},
		{pt(0, 0), pt(4, 0), pt(0, 0), pt(3, 0), Overlap},
		{pt(0, 0), pt(0, 4), pt(0, 2), pt(0, 9), Overlap},
		{pt(0, 4), pt(4, 0), pt(3, 1), pt(9, -5), Overlap},
		{pt(1, 2), pt(3, 4), pt(1, 2), pt(3, 4), Same},
		{pt(1, 2), pt(3, 4), pt(3, 4), pt(1, 2), Same},
		{pt(-far, -far), pt(far, far), pt(-far, -far+1), pt(far-1, far), Apart},
		{pt(-far, -far), pt(far, far), pt(-far, -far+1), pt(far, far-1), Cross},
		{pt(-far, -far), pt(far, far-1), pt(-far, -far+1), pt(far, far), Apart},
		{pt(-far, -far), pt(far, far-1), pt(0, 0), pt(-far, far), Apart},
		{pt(-far, -far), pt(far, far-2), pt(0, -1), pt(-far, far), Tee},
	}
	for _, r := range rows {
		if class, err := Class(r.a, r.b, r.c, r.d); class != r.class || err != api.OK {
			t.Error(r, class, err)
		}
	}
}

func TestClassNumbers(t *testing.T) {
	if Apart != 0 || Touch != 1 || Tee != 2 || Cross != 3 || Overlap != 4 || Same != 5 {
		t.Error(Apart, Touch, Tee, Cross, Overlap, Same)
	}
}

func TestClassErrors(t *testing.T) {
	a, b, c, d := pt(0, 0), pt(4, 4), pt(0, 4), pt(4, 0)
	rows := [][4]api.Point{{a, a, c, d}, {a, b, c, c}, {a, a, a, a}, {a, a, c, c}}
	for _, r := range rows {
		if class, err := Class(r[0], r[1], r[2], r[3]); class != 0 || err != api.ErrArg {
			t.Error(r, class, err)
		}
	}
	for _, bad := range wrong() {
		rows := [][4]api.Point{{bad, b, c, d}, {a, bad, c, d}, {a, b, bad, d}, {a, b, c, bad}, {bad, bad, c, d}, {a, b, bad, bad}, {a, a, bad, d}, {bad, b, c, c}, {bad, b, bad, b}}
		for _, r := range rows {
			if class, err := Class(r[0], r[1], r[2], r[3]); class != 0 || err != api.ErrRange {
				t.Error(r, class, err)
			}
		}
	}
}

func TestWord(t *testing.T) {
	for class, word := range []string{"apart", "touch", "tee", "cross", "overlap", "same"} {
		if Word(class) != word {
			t.Error(class, Word(class))
		}
	}
	for _, class := range []int{-1, 6, 256, math.MaxInt, math.MinInt} {
		if Word(class) != "" {
			t.Error(class, Word(class))
		}
	}
}

// P2.2

// exactAtX answers the exact Y of the cut by X = c.
func exactAtX(a, b api.Point, c int) (*big.Rat, bool) {
	if !(a.X < c && c < b.X || b.X < c && c < a.X) {
		return nil, false
	}
	y := new(big.Rat).Mul(rat(b.Y-a.Y, b.X-a.X), rat(c-a.X, 1))
	return y.Add(y, rat(a.Y, 1)), true
}

func exactAtY(a, b api.Point, c int) (*big.Rat, bool) {
	return exactAtX(pt(a.Y, a.X), pt(b.Y, b.X), c)
}

func checkLine(t *testing.T, a, b api.Point, c int) {
	t.Helper()
	want := func(r *big.Rat, ok bool) (int, bool) {
		if !ok {
			return 0, false
		}
		return rounded(r), true
	}
	y, is := AtX(a, b, c)
	if v, ok := want(exactAtX(a, b, c)); y != v || is != ok {
		t.Fatal("X", a, b, c, y, is)
	}
	x, is := AtY(a, b, c)
	if v, ok := want(exactAtY(a, b, c)); x != v || is != ok {
		t.Fatal("Y", a, b, c, x, is)
	}
}

func TestCutsByALine(t *testing.T) {
	for _, a := range grid(7) {
		for _, b := range grid(7) {
			for c := -4; c <= 4; c++ {
				checkLine(t, pt(a.X-3, a.Y-3), pt(b.X-3, b.Y-3), c)
			}
		}
	}
}

func TestCutsByALineAtTheBounds(t *testing.T) {
	l := append(corners(), pt(-api.Bound+1, api.Bound-1), pt(api.Bound-1, -1), pt(1, api.Bound-2))
	for _, a := range l {
		for _, b := range l {
			for _, base := range []int{-api.Bound, -1 << 20, 0, 12345, api.Bound} {
				for c := base - 2; c <= base+2; c++ {
					checkLine(t, a, b, c)
				}
			}
			checkLine(t, a, b, math.MaxInt)
			checkLine(t, a, b, math.MinInt)
		}
	}
}

func TestCutsByALineRounded(t *testing.T) {
	rows := []struct {
		a, b api.Point
		c, v int
		ok   bool
	}{
		{pt(0, 0), pt(2, 1), 1, 1, true},
		{pt(2, 1), pt(0, 0), 1, 1, true},
		{pt(0, 0), pt(2, -1), 1, 0, true},
		{pt(2, -1), pt(0, 0), 1, 0, true},
		{pt(0, -3), pt(2, 0), 1, -1, true},
		{pt(0, 0), pt(3, 1), 1, 0, true},
		{pt(0, 0), pt(3, 1), 2, 1, true},
		{pt(0, 0), pt(3, -1), 2, -1, true},
		{pt(0, 5), pt(9, 5), 4, 5, true},
		{pt(0, 0), pt(2, 1), 0, 0, false},
		{pt(0, 0), pt(2, 1), 2, 0, false},
		{pt(0, 7), pt(2, 7), 3, 0, false},
		{pt(1, 0), pt(1, 9), 1, 0, false},
		{pt(1, 1), pt(1, 1), 1, 0, false},
	}
	for _, r := range rows {
		if v, ok := AtX(r.a, r.b, r.c); v != r.v || ok != r.ok {
			t.Error("X", r, v, ok)
		}
		if v, ok := AtY(pt(r.a.Y, r.a.X), pt(r.b.Y, r.b.X), r.c); v != r.v || ok != r.ok {
			t.Error("Y", r, v, ok)
		}
	}
}

func TestCutsByALineOfWrongPoints(t *testing.T) {
	for _, bad := range wrong() {
		for _, good := range []api.Point{pt(0, 0), pt(-5, -5), pt(5, 5)} {
			for _, c := range []int{-7, -1, 0, 1, 7} {
				for _, r := range [][2]api.Point{{bad, good}, {good, bad}, {bad, bad}} {
					if v, ok := AtX(r[0], r[1], c); v != 0 || ok {
						t.Error("X", r, c, v, ok)
					}
					if v, ok := AtY(r[0], r[1], c); v != 0 || ok {
						t.Error("Y", r, c, v, ok)
					}
				}
			}
		}
	}
}

// P2.3

// cutsByRests tells what Cuts promises by other means: the exact cuts by their
// places from 0 at a to 1 at b, sorted, and then rounded.
func cutsByRests(a, b api.Point, xs, ys []int) []api.Point {
	type exactCut struct {
		place *big.Rat
		at    api.Point
	}
	var all []exactCut
	for _, c := range xs {
		if y, ok := exactAtX(a, b, c); ok {
			all = append(all, exactCut{rat(c-a.X, b.X-a.X), pt(c, rounded(y))})
		}
	}
	for _, c := range ys {
		if x, ok := exactAtY(a, b, c); ok {
			all = append(all, exactCut{rat(c-a.Y, b.Y-a.Y), pt(rounded(x), c)})
		}
	}
	slices.SortFunc(all, func(p, q exactCut) int { return p.place.Cmp(q.place) })
	l := []api.Point{a}
	for _, c := range all {
		l = append(l, c.at)
	}
	l = slices.Compact(append(l, b))
	if len(l) < 2 {
		return nil
	}
	return l[1 : len(l)-1]
}

// lines answers lists of lines: none, unsorted, told twice, through ends, and
// out of reach.
func lines() [][]int {
	return [][]int{nil, {}, {1}, {4, 2}, {3, 3, 1, 3}, {0, 6}, {5, 4, 3, 2, 1, 0, -1}, {-9, 3, math.MaxInt, math.MinInt}}
}

func TestCutsOfAll(t *testing.T) {
	for _, a := range grid(6) {
		for _, b := range grid(6) {
			for _, xs := range lines() {
				for _, ys := range lines() {
					if l := Cuts(a, b, xs, ys); !slices.Equal(l, cutsByRests(a, b, xs, ys)) {
						t.Fatal(a, b, xs, ys, l)
					}
				}
			}
		}
	}
}

func TestCutsAtTheBounds(t *testing.T) {
	far := api.Bound
	l := append(corners(), pt(-far+1, far-1), pt(far-1, -1), pt(-far, far-3))
	xs := []int{far, far - 1, -far, 1 - far, 0, 3, -3, 4096, 1 << 20}
	ys := []int{-4096, 0, 2, -far + 1, far - 1, far - 2, 4096, 3}
	for _, a := range l {
		for _, b := range l {
			if l := Cuts(a, b, xs, ys); !slices.Equal(l, cutsByRests(a, b, xs, ys)) {
				t.Fatal(a, b, l)
			}
		}
	}
}

func TestCuts(t *testing.T) {
	rows := []struct {
		a, b   api.Point
		xs, ys []int
		l      []api.Point
	}{
		{pt(0, 0), pt(5, 3), []int{2, 4}, []int{1}, []api.Point{pt(2, 1), pt(4, 2)}},
		{pt(0, 0), pt(5, 3), []int{4, 2}, []int{1, 1}, []api.Point{pt(2, 1), pt(4, 2)}},
		{pt(5, 3), pt(0, 0), []int{2, 4}, []int{1}, []api.Point{pt(4, 2), pt(2, 1)}},
		{pt(0, 4), pt(4, 0), []int{2, 3, 1}, []int{2}, []api.Point{pt(1, 3), pt(2, 2), pt(3, 1)}},
		{pt(0, 8192), pt(8192, 0), []int{4096}, []int{4096}, []api.Point{pt(4096, 4096)}},
		{pt(0, 0), pt(9, 0), []int{3, 6, 9, 0}, []int{0}, []api.Point{pt(3, 0), pt(6, 0)}},
		{pt(0, 9), pt(0, 0), []int{0}, []int{3, 6, 9, 0}, []api.Point{pt(0, 6), pt(0, 3)}},
		{pt(0, 0), pt(1, 2), nil, []int{1}, []api.Point{pt(1, 1)}},
		{pt(0, 0), pt(-1, 2), nil, []int{1}, []api.Point{pt(0, 1)}},
		{pt(0, 0), pt(5, 3), nil, nil, nil},
		{pt(0, 0), pt(5, 3), []int{0, 5}, []int{0, 3}, nil},
		{pt(2, 2), pt(2, 2), []int{2}, []int{2, 1, 3}, nil},
	}
	for _, r := range rows {
		if l := Cuts(r.a, r.b, r.xs, r.ys); !slices.Equal(l, r.l) {
			t.Error(r, l)
		}
	}
}

func TestCutsOfWrongPoints(t *testing.T) {
	some := []int{-4, 0, 1, 4}
	for _, bad := range wrong() {
		for _, r := range [][2]api.Point{{bad, pt(-5, -5)}, {pt(5, 5), bad}, {bad, bad}} {
			if l := Cuts(r[0], r[1], some, some); len(l) != 0 {
				t.Error(r, l)
			}
		}
	}
}

func TestLinesStayAsTheyAre(t *testing.T) {
	xs, ys := []int{4, 2, 9}, []int{2, 1, 9}
	first := Cuts(pt(0, 0), pt(5, 3), xs[:2], ys[:2])
	if !slices.Equal(xs, []int{4, 2, 9}) || !slices.Equal(ys, []int{2, 1, 9}) {
		t.Error(xs, ys)
	}
	second := Cuts(pt(0, 0), pt(5, 3), xs[:2], ys[:2])
	first[0] = pt(7, 7)
	if second[0] != pt(2, 1) {
		t.Error("shared", second)
	}
}

// P2.4

func TestClassWhicheverFirst(t *testing.T) {
	l := append(grid(3), pt(5, 2), pt(-api.Bound, api.Bound), pt(api.Bound+1, 0))
	for _, a := range l {
		for _, b := range l {
			for _, c := range l {
				for _, d := range l {
					class, err := Class(a, b, c, d)
					for _, r := range [][4]api.Point{{b, a, c, d}, {a, b, d, c}, {b, a, d, c}, {c, d, a, b}, {d, c, a, b}, {c, d, b, a}, {d, c, b, a}} {
						if other, wrong := Class(r[0], r[1], r[2], r[3]); other != class || wrong != err {
							t.Fatal(r, class, err, other, wrong)
						}
					}
				}
			}
		}
	}
}

func TestCutsTheOtherWayRound(t *testing.T) {
	l := append(grid(6), pt(17, 3), pt(-api.Bound, 5), pt(api.Bound, -api.Bound))
	for _, a := range l {
		for _, b := range l {
			for _, xs := range lines() {
				for _, ys := range lines() {
					there, back := Cuts(a, b, xs, ys), Cuts(b, a, xs, ys)
					slices.Reverse(back)
					if !slices.Equal(there, back) {
						t.Fatal(a, b, xs, ys, there, back)
					}
				}
			}
		}
	}
}

// between tells whether one of the lines lies strictly between v and w.
func between(lines []int, v, w int) bool {
	return slices.ContainsFunc(lines, func(c int) bool { return min(v, w) < c && c < max(v, w) })
}

func TestPiecesLieBetweenLines(t *testing.T) {
	for _, a := range grid(7) {
		for _, b := range grid(7) {
			for _, xs := range lines() {
				for _, ys := range lines() {
					last := a
					for _, p := range append(Cuts(a, b, xs, ys), b) {
						if between(xs, last.X, p.X) || between(ys, last.Y, p.Y) {
							t.Fatal(a, b, xs, ys, last, p)
						}
						last = p
					}
				}
			}
		}
	}
}
