// Package exact is layer 1: points of the grid, decided without a rest (see
// shared/doc/01-exact.md).
package exact

import "graticule/api"

const (
	// quotients are kept this small, so that twice a rest stays an int.
	maxTerm  = 1 << 60
	maxShift = 20
)

// Right tells whether all of these points may be.
func Right(l ...api.Point) bool {
	for _, p := range l {
		if !bounded(p.X) || !bounded(p.Y) {
			return false
		}
	}
	return true
}

func bounded(v int) bool {
	return v >= -api.Bound && v <= api.Bound
}

// Less tells whether a is ahead of b: by X, of like X by Y.
func Less(a, b api.Point) bool {
	if a.X != b.X {
		return a.X < b.X
	}
	return a.Y < b.Y
}

// Cross answers the doubled area of a, b, c: above 0, if they turn to the
// left; 0, if one of them may not be.
func Cross(a, b, c api.Point) int {
	if !Right(a, b, c) {
		return 0
	}
	return (b.X-a.X)*(c.Y-a.Y) - (b.Y-a.Y)*(c.X-a.X)
}

// Turn answers the sign of the doubled area of a, b, c.
func Turn(a, b, c api.Point) int {
	area := Cross(a, b, c)
	switch {
	case area > 0:
		return 1
	case area < 0:
		return -1
	}
	return 0
}

// On tells whether p lies on the segment from a to b, its ends too.
func On(a, b, p api.Point) bool {
	if !Right(a, b, p) {
		return false
	}
	if a == b {
		return p == a
	}
	return Turn(a, b, p) == 0 && between(a.X, b.X, p.X) && between(a.Y, b.Y, p.Y)
}

// between tells whether v lies from a to b, whichever of them is less.
func between(a, b, v int) bool {
	return min(a, b) <= v && v <= max(a, b)
}

// InTriangle tells whether p lies within the triangle a, b, c, or on its
// border.
func InTriangle(a, b, c, p api.Point) bool {
	if !Right(a, b, c, p) {
		return false
	}
	way := Turn(a, b, c)
	if way == 0 {
		// two segments with a common end go over all three points.
		return On(a, b, p) || On(b, c, p)
	}
	inside := func(from, to api.Point) bool { return Turn(from, to, p) != -way }
	return inside(a, b) && inside(b, c) && inside(c, a)
}

// Box answers the least numbers of these points, and the greatest ones; false
// of no points, or if one of them may not be.
func Box(l ...api.Point) (api.Point, api.Point, bool) {
	if len(l) == 0 || !Right(l...) {
		return api.Point{}, api.Point{}, false
	}
	low, high := l[0], l[0]
	for _, p := range l[1:] {
		low = api.Point{X: min(low.X, p.X), Y: min(low.Y, p.Y)}
		high = api.Point{X: max(high.X, p.X), Y: max(high.Y, p.Y)}
	}
	return low, high, true
}

// Floor answers n / d, rounded downwards; false, if d isn't from 1 to 2^60, or
// n not from -2^60 to 2^60.
func Floor(n, d int) (int, bool) {
	if d < 1 || d > maxTerm || n < -maxTerm || n > maxTerm {
		return 0, false
	}
	q := n / d
	if n%d >= 0 {
		goto done
	}
	// a division goes towards 0, which is upwards below 0.
	q--
done:
	return q, true
}

// Round answers the whole number nearest to n / d, of two as near the greater
// one; false, as of Floor.
func Round(n, d int) (int, bool) {
	q, ok := Floor(n, d)
	if ok && 2*(n-q*d) >= d {
		q++
	}
	return q, ok
}

// Shift answers v / 2^s rounded; false, if s isn't from 0 to 20, or v not from
// -Bound to Bound.
func Shift(v, s int) (int, bool) {
	if s < 0 || s > maxShift || !bounded(v) {
		return 0, false
	}
	return Round(v, 1<<s)
}
