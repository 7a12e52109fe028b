package rows

import (
	"math"
	"testing"

	"graticule/api"
)

func pt(x, y int) api.Point { return api.Point{X: x, Y: y} }

func bx(lowX, lowY, highX, highY int) Box { return Box{pt(lowX, lowY), pt(highX, highY)} }

// fits tells whether a box is right, number by number.
func fits(b Box) bool {
	for _, n := range []int{b.Low.X, b.Low.Y, b.High.X, b.High.Y} {
		if n < -api.Bound || n > api.Bound {
			return false
		}
	}
	return !(b.Low.X > b.High.X) && !(b.Low.Y > b.High.Y)
}

// touch tells whether two boxes meet: neither lies beside the other one.
func touch(a, b Box) bool {
	beside := a.High.X < b.Low.X || b.High.X < a.Low.X || a.High.Y < b.Low.Y || b.High.Y < a.Low.Y
	return fits(a) && fits(b) && !beside
}

// boxesOf answers all boxes of these numbers, those that aren't right, too.
func boxesOf(numbers ...int) []Box {
	var l []Box
	for _, lowX := range numbers {
		for _, lowY := range numbers {
			for _, highX := range numbers {
				for _, highY := range numbers {
					l = append(l, bx(lowX, lowY, highX, highY))
				}
			}
		}
	}
	return l
}

// wrong answers boxes of which none is right.
func wrong() []Box {
	top, low := math.MaxInt, math.MinInt
	return []Box{
		bx(1, 0, 0, 0), bx(0, 1, 0, 0), bx(1, 1, 0, 0), bx(1, -5, 0, 5), bx(-5, 1, 5, 0),
		bx(-api.Bound-1, 0, 0, 0), bx(0, -api.Bound-1, 0, 0), bx(0, 0, api.Bound+1, 0), bx(0, 0, 0, api.Bound+1),
		bx(api.Bound+1, 0, api.Bound+1, 0), bx(0, -api.Bound-1, 0, -api.Bound-1),
		bx(low, low, top, top), bx(top, top, low, low), bx(low, 0, 0, 0), bx(0, 0, 0, top), bx(low, low, low, low),
		bx(api.Bound, 0, -api.Bound, 0), bx(0, api.Bound, 0, -api.Bound),
	}
}

// P6.1: Of, Right, Meet

func TestOf(t *testing.T) {
	top, low, far := math.MaxInt, math.MinInt, api.Bound
	rows := []struct {
		l    []api.Point
		want Box
		ok   bool
	}{
		{[]api.Point{pt(3, -4)}, bx(3, -4, 3, -4), true},
		{[]api.Point{pt(0, 0)}, Box{}, true},
		{[]api.Point{pt(3, 1), pt(1, 3)}, bx(1, 1, 3, 3), true},
		{[]api.Point{pt(1, 1), pt(3, 3), pt(2, 9), pt(-7, 2)}, bx(-7, 1, 3, 9), true},
		{[]api.Point{pt(5, 5), pt(5, 5)}, bx(5, 5, 5, 5), true},
		{[]api.Point{pt(far, -far), pt(-far, far)}, bx(-far, -far, far, far), true},
		{[]api.Point{pt(far+1, 0)}, Box{}, false},
		{[]api.Point{pt(1, 1), pt(2, -far-1)}, Box{}, false},
		{[]api.Point{pt(low, 0), pt(1, 1)}, Box{}, false},
		{[]api.Point{pt(1, 1), pt(1, top), pt(2, 2)}, Box{}, false},
		{[]api.Point{}, Box{}, false},
		{nil, Box{}, false},
	}
	for _, r := range rows {
		if b, ok := Of(r.l...); b != r.want || ok != r.ok {
			t.Error(r, b, ok)
		}
	}
}

func TestRight(t *testing.T) {
	far := api.Bound
	right := []Box{
		{}, bx(0, 0, 1, 1), bx(0, 0, 1, 0), bx(0, 0, 0, 1), bx(-3, -3, -3, -3), bx(-3, 5, -2, 5),
		bx(-far, -far, far, far), bx(far, far, far, far), bx(-far, -far, -far, -far), bx(-far, far, far, far),
	}
	for _, b := range right {
		if !Right(b) {
			t.Error("right", b)
		}
	}
	for _, b := range wrong() {
		if Right(b) {
			t.Error("wrong", b)
		}
	}
	for _, b := range boxesOf(math.MinInt, -far-1, -far, -1, 0, 1, far, far+1, math.MaxInt) {
		if Right(b) != fits(b) {
			t.Error(b)
		}
	}
}

// has tells whether a point lies in a box, or on its border.
func has(b Box, p api.Point) bool {
	return b.Low.X <= p.X && p.X <= b.High.X && b.Low.Y <= p.Y && p.Y <= b.High.Y
}

// what has a common point is looked for point by point: a box that isn't right
// by its order has none.
func TestMeetOfAll(t *testing.T) {
	l := boxesOf(0, 1, 2, 3)
	for _, a := range l {
		for _, b := range l {
			want := false
			for x := range 4 {
				for y := range 4 {
					want = want || has(a, pt(x, y)) && has(b, pt(x, y))
				}
			}
			if Meet(a, b) != want {
				t.Fatal(a, b, want)
			}
		}
	}
}

func TestMeet(t *testing.T) {
	far := api.Bound
	rows := []struct {
		a, b Box
		want bool
	}{
		{bx(0, 0, 2, 2), bx(2, 2, 3, 3), true},
		{bx(0, 0, 2, 2), bx(3, 0, 5, 2), false},
		{bx(0, 0, 2, 2), bx(0, 3, 2, 5), false},
		{bx(0, 0, 9, 9), bx(4, 4, 5, 5), true},
		{bx(0, 4, 9, 5), bx(4, 0, 5, 9), true},
		{bx(-far, -far, far, far), bx(far, -far, far, -far), true},
		{bx(-far, 0, -1, 0), bx(0, 0, far, 0), false},
		{bx(1, 1, 1, 1), bx(1, 1, 1, 1), true},
		{bx(1, 1, 1, 1), bx(1, 2, 1, 2), false},
	}
	for _, r := range rows {
		if Meet(r.a, r.b) != r.want || Meet(r.b, r.a) != r.want {
			t.Error(r)
		}
	}
}

func TestMeetOfWrongOnes(t *testing.T) {
	world := bx(-api.Bound, -api.Bound, api.Bound, api.Bound)
	for _, a := range wrong() {
		if Meet(a, a) || Meet(a, world) || Meet(world, a) || Meet(a, Box{}) || Meet(Box{}, a) {
			t.Error(a)
		}
		for _, b := range wrong() {
			if Meet(a, b) {
				t.Error(a, b)
			}
		}
	}
}
