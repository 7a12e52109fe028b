package rows

import (
	"graticule/api"
	"graticule/order"
)

// Index is boxes, and where they stand.
type Index struct {
	boxes []Box
	// each box stands among fields that are a little greater than it is: thus it
	// lies in four of them at most, however great it is.
	grids map[size]*grid
}

// New answers an index of these boxes.
func New(l ...Box) *Index {
	x := &Index{}
	x.Add(l...)
	return x
}

// Add takes these boxes more, and answers how many there are then.
func (x *Index) Add(l ...Box) int {
	if x == nil {
		return 0
	}
	for _, b := range l {
		// one that isn't right stands nowhere: thus it meets none, not even itself.
		if Right(b) {
			x.grid(sizeOf(b)).add(len(x.boxes), b)
		}
		x.boxes = append(x.boxes, b)
	}
	return len(x.boxes)
}

// grid answers the one of a size, which may be new.
func (x *Index) grid(s size) *grid {
	if x.grids == nil {
		x.grids = map[size]*grid{}
	}
	if x.grids[s] == nil {
		x.grids[s] = &grid{size: s, fields: map[field][]int{}}
	}
	return x.grids[s]
}

// Box answers the box of that number; false of none.
func (x *Index) Box(i int) (Box, bool) {
	if i < 0 || i >= x.Len() {
		return Box{}, false
	}
	return x.boxes[i], true
}

// Len answers how many boxes there are.
func (x *Index) Len() int {
	if x == nil {
		return 0
	}
	return len(x.boxes)
}

// At answers the numbers of all boxes that have the point p, rising.
func (x *Index) At(p api.Point) []int {
	return x.Find(Box{p, p})
}

// Find answers the numbers of all boxes that meet b, rising.
func (x *Index) Find(b Box) []int {
	if x == nil || !Right(b) {
		return nil
	}
	var found []int
	for _, g := range x.grids {
		x.meeting(b, g, len(x.boxes), func(i int) { found = append(found, i) })
	}
	return order.Uniq(found...)
}

// Pairs answers all pairs of numbers whose boxes meet, the lesser number first,
// in the order of rows.
func (x *Index) Pairs() [][2]int {
	greater, count := make([][]int, x.Len()), 0
	for i := range greater {
		x.partners(i, func(j int) {
			low, high := min(i, j), max(i, j)
			greater[low] = append(greater[low], high)
			count++
		})
	}
	pairs := make([][2]int, 0, count)
	for i, l := range greater {
		for _, j := range order.Uniq(l...) {
			pairs = append(pairs, [2]int{i, j})
		}
	}
	return pairs
}

// partners uses the numbers of others that meet box i, each pair from one of
// its two boxes alone.
func (x *Index) partners(i int, use func(j int)) {
	b := x.boxes[i]
	if !Right(b) {
		return
	}
	from := sizeOf(b)
	for to, g := range x.grids {
		// a great box would go through many little fields, a little one lies in
		// few great ones: the one of the lesser size looks for the other one.
		switch order.Compare(from[:], to[:]) {
		case -1:
			x.meeting(b, g, len(x.boxes), use)
		case 0:
			x.meeting(b, g, i, use)
		}
	}
}

// meeting uses the numbers below a limit, of a grid's boxes that meet the right
// box b, each once.
func (x *Index) meeting(b Box, g *grid, below int, use func(i int)) {
	if g.sparse(b) {
		x.meetingAny(b, g, below, use)
		return
	}
fields:
	for f := range g.touched(b) {
		for _, i := range g.fields[f] {
			if i >= below {
				// they rise: the pairs with all that follow are met from these.
				continue fields
			}
			shared := common(b, x.boxes[i])
			// two boxes may lie together in several fields: they meet in that of
			// their first common point.
			if rises(shared) && g.field(shared.Low) == f {
				use(i)
			}
		}
	}
}

// meetingAny does the same without fields.
func (x *Index) meetingAny(b Box, g *grid, below int, use func(i int)) {
	for _, i := range g.all {
		if i >= below {
			return
		}
		if rises(common(b, x.boxes[i])) {
			use(i)
		}
	}
}
