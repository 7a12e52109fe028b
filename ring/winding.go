package ring

import (
	"graticule/api"
	"graticule/exact"
)

// spot is what a ring goes round: above tells whether a point lies higher, has
// whether an edge has the spot, left whether the spot lies to the left of an
// edge that hasn't, with one end higher and one not.
type spot struct {
	above     func(p api.Point) bool
	has, left func(from, to api.Point) bool
}

// around answers how often the ring goes round the spot; false, if an edge has
// it.
func around(l []api.Point, s spot) (int, bool) {
	turns := 0
	// from the spot to the right, each edge that goes up past it is a turn to
	// the left, each that goes down one to the right.
	count := func(from, to api.Point) {
		up := s.above(to)
		switch {
		case up == s.above(from) || up != s.left(from, to):
		case up:
			turns++
		default:
			turns--
		}
	}
	for from, to := range edges(l) {
		if s.has(from, to) {
			return 0, false
		}
		count(from, to)
	}
	return turns, true
}

// Winding answers how often the ring goes round p; false, if p lies on an
// edge, or p, or one of the points, may not be.
func Winding(l []api.Point, p api.Point) (int, bool) {
	if !exact.Right(p) || !exact.Right(l...) {
		return 0, false
	}
	return around(l, spot{
		above: func(q api.Point) bool { return q.Y > p.Y },
		has:   func(from, to api.Point) bool { return exact.On(from, to, p) },
		left:  func(from, to api.Point) bool { return exact.Turn(from, to, p) > 0 },
	})
}

// Beside answers how often the ring goes round the point just to the left of
// the middle of the segment from a to b; false, if a is b, a point may not be,
// or an edge that doesn't lie on one line with the segment has its middle.
func Beside(l []api.Point, a, b api.Point) (int, bool) {
	if a == b || !exact.Right(a, b) || !exact.Right(l...) {
		return 0, false
	}
	// twice the middle is whole, and so is twice the doubled area with it.
	x, y := a.X+b.X, a.Y+b.Y
	area := func(from, to api.Point) int { return exact.Cross(from, to, a) + exact.Cross(from, to, b) }
	return around(l, spot{
		above: func(q api.Point) bool {
			// left of a segment that goes back is below it.
			return 2*q.Y > y || 2*q.Y == y && b.X < a.X
		},
		has: func(from, to api.Point) bool {
			within := between(2*from.X, 2*to.X, x) && between(2*from.Y, 2*to.Y, y)
			return within && area(from, to) == 0 && exact.Cross(from, to, a) != 0
		},
		left: func(from, to api.Point) bool {
			n := area(from, to)
			// no area has only an edge on one line with the segment: the spot lies
			// to its left, if both go the same way.
			return n > 0 || n == 0 && along(from, to, a, b)
		},
	})
}

// between tells whether v lies from a to b, whichever of them is less.
func between(a, b, v int) bool {
	return min(a, b) <= v && v <= max(a, b)
}

// along tells whether the ways from a to b, and from c to d, are less than a
// quarter turn apart.
func along(a, b, c, d api.Point) bool {
	return (b.X-a.X)*(d.X-c.X)+(b.Y-a.Y)*(d.Y-c.Y) > 0
}
