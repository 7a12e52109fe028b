package order

import (
	"math"
	"slices"
	"testing"

	"graticule/api"
)

func pt(x, y int) api.Point { return api.Point{X: x, Y: y} }

// lists gives all lists of n of these things, each to be used at once.
func lists[T any](of []T, n int, use func(l []T)) {
	if n == 0 {
		use(nil)
		return
	}
	lists(of, n-1, func(l []T) {
		for _, thing := range of {
			use(append(l[:n-1:n-1], thing))
		}
	})
}

// rising gives all rising lists of up to n of these rising numbers.
func rising(of []int, n int, use func(l []int)) {
	for k := range n + 1 {
		lists(of, k, func(l []int) {
			if slices.IsSorted(l) {
				use(l)
			}
		})
	}
}

// often tells how often a thing is told.
func often[T comparable](l []T, thing T) int {
	n := 0
	for _, other := range l {
		if other == thing {
			n++
		}
	}
	return n
}

// sameThings tells whether two lists have the same things, each as often.
func sameThings[T comparable](l, m []T) bool {
	for _, thing := range l {
		if often(l, thing) != often(m, thing) {
			return false
		}
	}
	return len(l) == len(m)
}

// numbers answers n numbers below top that seem to have no order.
func numbers(n, top int) []int {
	var l []int
	seed := 12345
	for range n {
		seed = (seed*1103515245 + 12345) % (1 << 31)
		l = append(l, seed/(1<<8)%top)
	}
	return l
}

// P4.1: Points

// behind tells whether a is behind b.
func behind(a, b api.Point) bool {
	return a.X > b.X || a.X == b.X && a.Y > b.Y
}

func checkPoints(t *testing.T, l []api.Point) {
	t.Helper()
	ordered := Points(l...)
	if !sameThings(l, ordered) {
		t.Fatal("things", l, ordered)
	}
	for i := 1; i < len(ordered); i++ {
		if behind(ordered[i-1], ordered[i]) {
			t.Fatal("order", l, ordered)
		}
	}
}

func TestPointsOfAll(t *testing.T) {
	of := []api.Point{pt(0, 0), pt(0, 1), pt(1, 0), pt(1, 1), pt(-1, 2)}
	for n := range 7 {
		lists(of, n, func(l []api.Point) { checkPoints(t, l) })
	}
}

func TestPoints(t *testing.T) {
	top, low := math.MaxInt, math.MinInt
	rows := []struct{ l, want []api.Point }{
		{[]api.Point{pt(2, 0), pt(1, 9), pt(1, 2)}, []api.Point{pt(1, 2), pt(1, 9), pt(2, 0)}},
		{[]api.Point{pt(1, 1), pt(0, 0), pt(1, 1), pt(0, 0)}, []api.Point{pt(0, 0), pt(0, 0), pt(1, 1), pt(1, 1)}},
		{[]api.Point{pt(-1, 0), pt(-2, 0), pt(-2, -1)}, []api.Point{pt(-2, -1), pt(-2, 0), pt(-1, 0)}},
		{[]api.Point{pt(7, 7)}, []api.Point{pt(7, 7)}},
		{[]api.Point{pt(top, 0), pt(low, 0), pt(0, top), pt(0, low), pt(0, 0)}, []api.Point{pt(low, 0), pt(0, low), pt(0, 0), pt(0, top), pt(top, 0)}},
		{[]api.Point{pt(api.Bound+2, 0), pt(api.Bound+1, 0)}, []api.Point{pt(api.Bound+1, 0), pt(api.Bound+2, 0)}},
		{[]api.Point{}, nil},
		{nil, nil},
	}
	for _, r := range rows {
		if ordered := Points(r.l...); !slices.Equal(ordered, r.want) {
			t.Error(r, ordered)
		}
	}
}

func TestManyPoints(t *testing.T) {
	const n = 60000
	xs, ys := numbers(n, 300), numbers(2*n, 70)[n:]
	var l []api.Point
	for i := range xs {
		l = append(l, pt(xs[i]-150, ys[i]-35))
	}
	want := slices.Clone(l)
	slices.SortFunc(want, func(a, b api.Point) int {
		if a.X != b.X {
			return a.X - b.X
		}
		return a.Y - b.Y
	})
	if !slices.Equal(Points(l...), want) || !slices.Equal(Points(want...), want) {
		t.Error("not in order")
	}
	slices.Reverse(l)
	if !slices.Equal(Points(l...), want) {
		t.Error("not in order, turned round")
	}
}

// P4.1: Rows and Compare

// someRows answers rows, rising, of which none are alike.
func someRows() [][]int {
	return [][]int{{}, {-2}, {-2, 7}, {-1}, {0}, {0, 0}, {0, 0, 0}, {0, 1}, {0, 1, -1}, {1}, {1, -9}, {1, 9}, {2}}
}

func TestCompare(t *testing.T) {
	l := someRows()
	for i, a := range l {
		for j, b := range l {
			want := 0
			if i < j {
				want = -1
			}
			if i > j {
				want = 1
			}
			if n := Compare(a, b); n != want {
				t.Error(a, b, n)
			}
		}
	}
	top, low := math.MaxInt, math.MinInt
	rows := []struct {
		a, b []int
		want int
	}{
		{nil, nil, 0},
		{nil, []int{}, 0},
		{nil, []int{low}, -1},
		{[]int{low}, nil, 1},
		{[]int{low}, []int{top}, -1},
		{[]int{top}, []int{low}, 1},
		{[]int{top, low}, []int{top, low}, 0},
		{[]int{1, 2, 3}, []int{1, 2}, 1},
		{[]int{1, 2}, []int{1, 2, low}, -1},
		{[]int{2}, []int{1, 2, 3}, 1},
		{[]int{1, 3, 0}, []int{1, 2, 9}, 1},
	}
	for _, r := range rows {
		if n := Compare(r.a, r.b); n != r.want {
			t.Error(r, n)
		}
	}
}

// numbersOfRows tells what Rows promises by other means: a row's place is how
// many come ahead of it, or are like it and have a lesser number.
func numbersOfRows(l [][]int) []int {
	want := make([]int, len(l))
	for i, a := range l {
		place := 0
		for j, b := range l {
			way := slices.Compare(b, a)
			if way < 0 || way == 0 && j < i {
				place++
			}
		}
		want[place] = i
	}
	return want
}

func TestRowsOfAll(t *testing.T) {
	for n := range 6 {
		lists([][]int{nil, {0}, {0, 0}, {0, 1}, {1}, {-1, 5}}, n, func(l [][]int) {
			if got := Rows(l...); !slices.Equal(got, numbersOfRows(l)) {
				t.Fatal(l, got)
			}
		})
	}
}

func TestRows(t *testing.T) {
	rows := []struct {
		l    [][]int
		want []int
	}{
		{[][]int{{2}, {1, 9}, {1}, {}}, []int{3, 2, 1, 0}},
		{[][]int{{5}, {5}, {5}}, []int{0, 1, 2}},
		{[][]int{{5}, nil, {5}, {}, nil}, []int{1, 3, 4, 0, 2}},
		{[][]int{{math.MaxInt}, {math.MinInt}, {0}}, []int{1, 2, 0}},
		{[][]int{{1, 2, 3}}, []int{0}},
		{[][]int{nil}, []int{0}},
		{[][]int{}, nil},
		{nil, nil},
	}
	for _, r := range rows {
		if got := Rows(r.l...); !slices.Equal(got, r.want) {
			t.Error(r, got)
		}
	}
}

func TestManyRows(t *testing.T) {
	var l [][]int
	for _, n := range numbers(1500, 90) {
		l = append(l, []int{n % 9, n / 9}[:n%3])
	}
	if !slices.Equal(Rows(l...), numbersOfRows(l)) {
		t.Error("not in order")
	}
}

// P4.1: Uniq

func TestUniqOfAll(t *testing.T) {
	of := []int{-3, 0, 1, 2, 7}
	for n := range 7 {
		lists(of, n, func(l []int) {
			var want []int
			for _, n := range of {
				if often(l, n) > 0 {
					want = append(want, n)
				}
			}
			if got := Uniq(l...); !slices.Equal(got, want) {
				t.Fatal(l, got)
			}
		})
	}
}

func TestUniq(t *testing.T) {
	top, low := math.MaxInt, math.MinInt
	rows := []struct{ l, want []int }{
		{[]int{3, 1, 3, 2, 1}, []int{1, 2, 3}},
		{[]int{top, low, 0, top, low}, []int{low, 0, top}},
		{[]int{4, 4, 4, 4}, []int{4}},
		{[]int{0, 0}, []int{0}},
		{[]int{}, nil},
		{nil, nil},
	}
	for _, r := range rows {
		if got := Uniq(r.l...); !slices.Equal(got, r.want) {
			t.Error(r, got)
		}
	}
	many := Uniq(numbers(60000, 500)...)
	if len(many) != 500 || many[0] != 0 || many[499] != 499 || !slices.IsSorted(many) {
		t.Error("many", many)
	}
}

// P4.2

func TestMergeOfAll(t *testing.T) {
	of := []int{-1, 0, 2, 3}
	rising(of, 4, func(a []int) {
		rising(of, 4, func(b []int) {
			got := Merge(a, b)
			if !slices.IsSorted(got) || !sameThings(got, slices.Concat(a, b)) {
				t.Fatal(a, b, got)
			}
		})
	})
}

func TestMerge(t *testing.T) {
	top, low := math.MaxInt, math.MinInt
	rows := []struct{ a, b, want []int }{
		{[]int{1, 3, 3, 5}, []int{0, 3, 9}, []int{0, 1, 3, 3, 3, 5, 9}},
		{[]int{1, 2}, []int{3, 4}, []int{1, 2, 3, 4}},
		{[]int{3, 4}, []int{1, 2}, []int{1, 2, 3, 4}},
		{[]int{low, top}, []int{low, 0, top}, []int{low, low, 0, top, top}},
		{[]int{1, 1}, nil, []int{1, 1}},
		{nil, []int{1, 1}, []int{1, 1}},
		{[]int{}, []int{}, nil},
		{nil, nil, nil},
	}
	for _, r := range rows {
		if got := Merge(r.a, r.b); !slices.Equal(got, r.want) {
			t.Error(r, got)
		}
	}
}

// lookedThrough tells what Find promises by going through the whole list.
func lookedThrough(l []int, n int) (int, bool) {
	for i, m := range l {
		if m >= n {
			return i, m == n
		}
	}
	return len(l), false
}

func TestFindOfAll(t *testing.T) {
	rising([]int{-4, -3, 0, 2, 5}, 6, func(l []int) {
		for n := -6; n <= 7; n++ {
			place, is := Find(l, n)
			if want, has := lookedThrough(l, n); place != want || is != has {
				t.Fatal(l, n, place, is)
			}
		}
	})
}

func TestFind(t *testing.T) {
	top, low := math.MaxInt, math.MinInt
	rows := []struct {
		l     []int
		n     int
		place int
		is    bool
	}{
		{[]int{4, 8}, 4, 0, true},
		{[]int{4, 8}, 5, 1, false},
		{[]int{4, 8}, 8, 1, true},
		{[]int{4, 8}, 9, 2, false},
		{[]int{4, 8}, 3, 0, false},
		{[]int{1, 4, 4, 4, 8}, 4, 1, true},
		{[]int{low, 0, top}, low, 0, true},
		{[]int{low, 0, top}, top, 2, true},
		{[]int{0}, top, 1, false},
		{[]int{0}, low, 0, false},
		{[]int{}, 0, 0, false},
		{nil, 0, 0, false},
	}
	for _, r := range rows {
		if place, is := Find(r.l, r.n); place != r.place || is != r.is {
			t.Error(r, place, is)
		}
	}
}

// belongs tells whether n belongs to a strip, by the lines at its two sides.
func belongs(lines []int, strip, n int) bool {
	behindFirst := strip == 0 || lines[strip-1] <= n
	aheadOfLast := strip == len(lines) || n <= lines[strip]
	return behindFirst && aheadOfLast
}

func TestStripsOfAll(t *testing.T) {
	rising([]int{-4, -3, 0, 2, 5}, 5, func(lines []int) {
		for n := -6; n <= 7; n++ {
			first, last := Strips(lines, n)
			for strip := range len(lines) + 1 {
				if belongs(lines, strip, n) != (first <= strip && strip <= last) {
					t.Fatal(lines, n, first, last)
				}
			}
			if first < 0 || last > len(lines) {
				t.Fatal(lines, n, first, last)
			}
		}
	})
}

func TestStrips(t *testing.T) {
	top, low := math.MaxInt, math.MinInt
	rows := []struct {
		lines       []int
		n           int
		first, last int
	}{
		{[]int{4, 8}, 3, 0, 0},
		{[]int{4, 8}, 4, 0, 1},
		{[]int{4, 8}, 5, 1, 1},
		{[]int{4, 8}, 8, 1, 2},
		{[]int{4, 8}, 9, 2, 2},
		{[]int{4, 4, 8}, 4, 0, 2},
		{[]int{low, top}, low, 0, 1},
		{[]int{low, top}, 0, 1, 1},
		{[]int{low, top}, top, 1, 2},
		{[]int{0}, top, 1, 1},
		{[]int{0}, low, 0, 0},
		{[]int{}, 7, 0, 0},
		{nil, 7, 0, 0},
	}
	for _, r := range rows {
		if first, last := Strips(r.lines, r.n); first != r.first || last != r.last {
			t.Error(r, first, last)
		}
	}
}

func TestCommonOfAll(t *testing.T) {
	rising([]int{-4, -3, 0, 2, 5}, 4, func(lines []int) {
		for a := -6; a <= 7; a++ {
			for b := -6; b <= 7; b++ {
				want := false
				for strip := range len(lines) + 1 {
					want = want || belongs(lines, strip, a) && belongs(lines, strip, b)
				}
				if Common(lines, a, b) != want {
					t.Fatal(lines, a, b)
				}
			}
		}
	})
}

func TestCommon(t *testing.T) {
	top, low := math.MaxInt, math.MinInt
	rows := []struct {
		lines []int
		a, b  int
		want  bool
	}{
		{[]int{4, 8}, 4, 8, true},
		{[]int{4, 8}, 8, 4, true},
		{[]int{4, 8}, 3, 5, false},
		{[]int{4, 8}, 5, 3, false},
		{[]int{4, 8}, 4, 9, false},
		{[]int{4, 8}, 3, 8, false},
		{[]int{4, 8}, 0, 4, true},
		{[]int{4, 8}, 8, top, true},
		{[]int{4, 8}, low, top, false},
		{[]int{4, 4}, 3, 5, false},
		{[]int{low, top}, low, top, true},
		{nil, low, top, true},
		{[]int{}, 5, 5, true},
	}
	for _, r := range rows {
		if got := Common(r.lines, r.a, r.b); got != r.want {
			t.Error(r, got)
		}
	}
}

func TestListsThatDoNotRise(t *testing.T) {
	for n := range 6 {
		lists([]int{math.MinInt, 0, 1, math.MaxInt}, n, func(l []int) {
			for _, m := range []int{math.MinInt, 0, 1, 2, math.MaxInt} {
				Find(l, m)
				Strips(l, m)
				Common(l, m, 0)
			}
			Merge(l, l)
			Merge(l, []int{1, 0})
		})
	}
}

// P4.3

func TestCommonWithoutALineBetween(t *testing.T) {
	rising([]int{-3, -2, 0, 2, 3}, 4, func(lines []int) {
		for a := -5; a <= 5; a++ {
			for b := -5; b <= 5; b++ {
				parted := slices.ContainsFunc(lines, func(n int) bool { return min(a, b) < n && n < max(a, b) })
				if Common(lines, a, b) == parted {
					t.Fatal(lines, a, b)
				}
			}
		}
	})
}

func TestPointsTurnedRound(t *testing.T) {
	of := []api.Point{pt(0, 0), pt(0, -1), pt(1, 0), pt(-1, 3)}
	for n := range 6 {
		lists(of, n, func(l []api.Point) {
			turned := slices.Clone(l)
			slices.Reverse(turned)
			if !slices.Equal(Points(l...), Points(turned...)) {
				t.Fatal(l)
			}
		})
	}
}

// P1 and P2: memory

// checkMemory tells whether a call changes what is handed in, keeps it, or
// answers a part of it, or of its spare room.
func checkMemory[T comparable, R comparable](t *testing.T, name string, all []T, mark T, spoil R, call func(l []T) []R) {
	t.Helper()
	for n := range len(all) {
		l := slices.Clone(all)
		answer := call(l[:n])
		if !slices.Equal(l, all) {
			t.Error(name, "changed", n, l)
		}
		if !slices.Equal(answer, call(l[:n])) {
			t.Error(name, "answers otherwise", n)
		}
		kept := slices.Clone(answer)
		for i := range l {
			l[i] = mark
		}
		if !slices.Equal(answer, kept) {
			t.Error(name, "kept", n)
		}
		for i := range answer {
			answer[i] = spoil
		}
		answer = append(answer, spoil)
		if often(l, mark) != len(l) {
			t.Error(name, "shared", n)
		}
	}
}

func TestListsStayAsTheyAre(t *testing.T) {
	points := []api.Point{pt(3, 1), pt(3, 1), pt(1, 2), pt(9, 9), pt(0, 4), pt(2, 2)}
	checkMemory(t, "points", points, pt(-7, -7), pt(8, 8), func(l []api.Point) []api.Point { return Points(l...) })
	mixed := []int{3, 3, 1, 9, 0, 2, 1}
	checkMemory(t, "uniq", mixed, -7, 8, func(l []int) []int { return Uniq(l...) })
	checkMemory(t, "rows", mixed, -7, 8, func(l []int) []int { return Rows(l, l[:len(l)/2], nil, l) })
	even := []int{-4, 0, 0, 2, 6, 8}
	checkMemory(t, "merge", even, -7, 5, func(l []int) []int { return Merge(l, []int{-1, 0, 3}) })
	checkMemory(t, "merge behind", even, -7, 5, func(l []int) []int { return Merge(nil, l) })
	checkMemory(t, "merge ahead", even, -7, 5, func(l []int) []int { return Merge(l, nil) })
	checkMemory(t, "merge twice", even, -7, 5, func(l []int) []int { return Merge(l, l) })
	checkMemory(t, "places", even, -7, 5, func(l []int) []int {
		place, _ := Find(l, 2)
		first, last := Strips(l, 0)
		Common(l, 1, 3)
		return []int{place, first, last, Compare(l, even)}
	})
}

func TestRowsHandedInStayAsTheyAre(t *testing.T) {
	l := [][]int{{2, 1}, {1, 9}, {1}, nil}
	Rows(l[:3]...)
	if Compare(l[0], []int{2, 1}) != 0 || Compare(l[1], []int{1, 9}) != 0 || Compare(l[2], []int{1}) != 0 || l[3] != nil {
		t.Error(l)
	}
}
