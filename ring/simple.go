package ring

import (
	"slices"

	"graticule/api"
	"graticule/exact"
	"graticule/seg"
)

// edge is an edge with its place in the ring, and its box.
type edge struct {
	place     int
	from, to  api.Point
	low, high api.Point
}

// Simple tells whether the ring is simple: at least three points that may be,
// none twice, and edges that have no common point but the one between two that
// are next to each other.
func Simple(l []api.Point) bool {
	if len(l) < 3 || !exact.Right(l...) {
		return false
	}
	all := fromLeast(l)
	for i, e := range all {
		for _, f := range all[i+1:] {
			// this edge and all that follow lie behind e: without that, great
			// rings would take too long.
			if f.low.X > e.high.X {
				break
			}
			if boxesMeet(e, f) && !fit(e, f, len(l)) {
				goto wrong
			}
		}
	}
	return true
wrong:
	return false
}

// fromLeast answers the edges, rising by their least X.
func fromLeast(l []api.Point) []edge {
	all := make([]edge, 0, len(l))
	for from, to := range edges(l) {
		low, high, _ := exact.Box(from, to)
		all = append(all, edge{len(all), from, to, low, high})
	}
	slices.SortFunc(all, func(e, f edge) int { return e.low.X - f.low.X })
	return all
}

func boxesMeet(e, f edge) bool {
	return e.low.X <= f.high.X && f.low.X <= e.high.X && e.low.Y <= f.high.Y && f.low.Y <= e.high.Y
}

// fit tells whether two edges of a ring of n points lie as those of a simple
// one do. A point that stands twice is told by its edges: one has no length, or
// two meet that aren't next to each other.
func fit(e, f edge, n int) bool {
	class, err := seg.Class(e.from, e.to, f.from, f.to)
	if err != api.OK {
		return false
	}
	if (e.place+1)%n == f.place || (f.place+1)%n == e.place {
		return class == seg.Touch
	}
	return class == seg.Apart
}
