package ring

import (
	"slices"
	"testing"

	"graticule/api"
)

// P3.1

// commons answers how many common points two segments have: 0, 1, or 2 for
// more; by the common point's place on each of them.
func commons(a, b, c, d api.Point) int {
	abx, aby, cdx, cdy := b.X-a.X, b.Y-a.Y, d.X-c.X, d.Y-c.Y
	acx, acy := c.X-a.X, c.Y-a.Y
	det, on, off := abx*cdy-aby*cdx, acx*cdy-acy*cdx, acx*aby-acy*abx
	if det < 0 {
		det, on, off = -det, -on, -off
	}
	switch {
	case det > 0 && 0 <= on && on <= det && 0 <= off && off <= det:
		return 1
	case det > 0 || acx*aby != acy*abx:
		return 0
	}
	place := func(p api.Point) int { return (p.X-a.X)*abx + (p.Y-a.Y)*aby }
	low := max(0, min(place(c), place(d)))
	high := min(place(b), max(place(c), place(d)))
	switch {
	case low < high:
		return 2
	case low == high:
		return 1
	}
	return 0
}

// simpleByPairs tells what Simple promises by other means.
func simpleByPairs(l []api.Point) bool {
	n := len(l)
	for i := range n {
		for j := range i {
			if l[i] == l[j] {
				return false
			}
		}
	}
	for i := range n {
		for j := range i {
			want := 0
			if i == j+1 || i == n-1 && j == 0 {
				want = 1
			}
			if commons(l[i], l[(i+1)%n], l[j], l[j+1]) != want {
				return false
			}
		}
	}
	return n >= 3
}

func TestSimpleOfAll(t *testing.T) {
	met := 0
	check := func(l []api.Point) {
		simple := Simple(l)
		if simple != simpleByPairs(l) {
			t.Fatal(l, simple)
		}
		if simple {
			met++
		}
	}
	for n := range 6 {
		rings(grid(3), n, check)
	}
	rings(grid(2), 6, check)
	if met == 0 {
		t.Error("no simple ring met")
	}
}

func TestSimpleOfWiderRings(t *testing.T) {
	wide := []api.Point{pt(0, 0), pt(7, 1), pt(3, 3), pt(-2, 5), pt(4, -6), pt(10, 6), pt(1, 1)}
	for n := 3; n <= 6; n++ {
		rings(wide, n, func(l []api.Point) {
			if Simple(l) != simpleByPairs(l) {
				t.Fatal(l)
			}
		})
	}
}

func TestSimple(t *testing.T) {
	far := api.Bound
	rows := []struct {
		l      []api.Point
		simple bool
	}{
		{square(), true},
		{Turned(square()), true},
		{[]api.Point{pt(0, 0), pt(2, 0), pt(4, 0), pt(4, 4), pt(0, 4)}, true},
		{[]api.Point{pt(0, 0), pt(4, 4), pt(4, 0), pt(0, 4)}, false},
		{[]api.Point{pt(0, 0), pt(4, 0), pt(2, 0)}, false},
		{[]api.Point{pt(0, 0), pt(4, 0), pt(4, 4), pt(2, 0), pt(0, 4)}, false},
		{[]api.Point{pt(0, 0), pt(4, 0), pt(6, 0), pt(2, 0), pt(2, 4)}, false},
		{[]api.Point{pt(0, 0), pt(4, 0), pt(4, 4), pt(4, 2), pt(0, 4)}, false},
		{[]api.Point{pt(0, 0), pt(0, 0), pt(4, 0), pt(4, 4)}, false},
		{append(square(), pt(0, 0)), false},
		{[]api.Point{pt(0, 0), pt(2, 2), pt(4, 0), pt(4, 4), pt(2, 2), pt(0, 4)}, false},
		{star(), false},
		{[]api.Point{pt(-far, -far), pt(far, -far), pt(far, far), pt(-far, far)}, true},
		{[]api.Point{pt(-far, -far), pt(far, far-1), pt(far, far), pt(-far, 1-far)}, true},
		{[]api.Point{pt(-far, -far), pt(far, far), pt(far, far-1), pt(-far, 1-far)}, false},
		{[]api.Point{pt(-far, -far), pt(far, far), pt(0, 1)}, true},
		{[]api.Point{pt(-far, -far), pt(far, far), pt(0, 0)}, false},
		{[]api.Point{pt(0, 0), pt(4, 0)}, false},
		{[]api.Point{pt(0, 0)}, false},
		{[]api.Point{}, false},
		{nil, false},
	}
	for _, r := range rows {
		for k := range len(r.l) + 1 {
			if l := begun(r.l, k); Simple(l) != r.simple {
				t.Error(l)
			}
		}
	}
}

func TestSimpleOfWrongPoints(t *testing.T) {
	for _, bad := range wrong() {
		for i := range 5 {
			if l := slices.Insert(square(), i, bad); Simple(l) {
				t.Error(l)
			}
		}
		if Simple([]api.Point{pt(0, 0), pt(4, 0), bad}) {
			t.Error(bad)
		}
	}
}

// comb answers a ring with so many teeth, upwards.
func comb(teeth int) []api.Point {
	l := []api.Point{pt(2*teeth, 0)}
	for i := teeth - 1; i >= 0; i-- {
		l = append(l, pt(2*i+1, 1000), pt(2*i, 0))
	}
	return append(l, pt(0, -1), pt(2*teeth, -1))
}

func TestSimpleOfGreatRings(t *testing.T) {
	flip := func(l []api.Point) []api.Point {
		for i, p := range l {
			l[i] = pt(p.Y, p.X)
		}
		return l
	}
	const teeth = 4000
	bent := func() []api.Point {
		l := comb(teeth)
		// the end of a tooth, just within the one beside it.
		l[teeth+1].X += 2
		l[teeth+1].Y--
		return l
	}
	if !Simple(comb(teeth)) || !Simple(flip(comb(teeth))) {
		t.Error("comb")
	}
	if Simple(bent()) || Simple(flip(bent())) {
		t.Error("bent comb")
	}
}
