package rows

import (
	"iter"
	"math/bits"

	"graticule/api"
)

const (
	// grain is how many doublings lie between one size of fields and the next:
	// with fewer sizes there are fewer grids to look in, but more little boxes
	// lie together in a field.
	grain = 3
	// lookup is how many boxes can be gone through while a field is looked up.
	lookup = 16
)

// size is how often fields' sides, by X and by Y, are doubled, from 1 on.
type size [2]int

// field is its place among those of its size, by X and by Y.
type field [2]int

// grid is the numbers of boxes of about one size, rising: all, and those that
// lie in a field.
type grid struct {
	size
	all    []int
	fields map[field][]int
}

// sizeOf answers the size of the fields among which a right box stands.
func sizeOf(b Box) size {
	return size{doublings(b.High.X - b.Low.X), doublings(b.High.Y - b.Low.Y)}
}

// doublings answers how often 1 is doubled, a few times at once, till it is
// greater than n.
func doublings(n int) int {
	return (bits.Len(uint(n)) + grain - 1) / grain * grain
}

// field answers the one in which a point lies.
func (s size) field(p api.Point) field {
	return field{p.X >> s[0], p.Y >> s[1]}
}

// touched gives the fields in which a right box lies.
func (s size) touched(b Box) iter.Seq[field] {
	low, high := s.field(b.Low), s.field(b.High)
	return func(yield func(f field) bool) {
		for x := low[0]; x <= high[0]; x++ {
			for y := low[1]; y <= high[1]; y++ {
				if !yield(field{x, y}) {
					return
				}
			}
		}
	}
}

// add lets a right box of that number, greater than those ahead, stand in its
// fields.
func (g *grid) add(number int, b Box) {
	g.all = append(g.all, number)
	for f := range g.touched(b) {
		g.fields[f] = append(g.fields[f], number)
	}
}

// sparse tells whether a right box lies in so many fields, for so few boxes,
// that it is sooner held against all of these.
func (g *grid) sparse(b Box) bool {
	low, high := g.field(b.Low), g.field(b.High)
	fields := (high[0] - low[0] + 1) * (high[1] - low[1] + 1)
	return fields > len(g.all)/lookup
}
