package heap

import (
	"math"
	"slices"
	"testing"
)

func en(key, tie, sub int) Entry { return Entry{key, tie, sub} }

// plain is what a heap promises by other means: entries as they came, gone
// through from the first to the last.
type plain []Entry

// ahead tells whether a comes ahead of b.
func ahead(a, b Entry) bool {
	return a.Key < b.Key ||
		a.Key == b.Key && a.Tie < b.Tie ||
		a.Key == b.Key && a.Tie == b.Tie && a.Sub < b.Sub
}

func (p *plain) push(l ...Entry) int {
	*p = append(*p, l...)
	return len(*p)
}

func (p *plain) top() (Entry, bool) {
	if len(*p) == 0 {
		return Entry{}, false
	}
	least := (*p)[0]
	for _, e := range *p {
		if ahead(e, least) {
			least = e
		}
	}
	return least, true
}

func (p *plain) drop(l ...Entry) int {
	gone := 0
	for _, e := range l {
		for i, other := range *p {
			if other == e {
				*p = append((*p)[:i:i], (*p)[i+1:]...)
				gone++
				break
			}
		}
	}
	return gone
}

func (p *plain) pop() (Entry, bool) {
	least, ok := p.top()
	p.drop(least)
	return least, ok
}

// all puts each entry behind those that it isn't ahead of.
func (p *plain) all() []Entry {
	var l []Entry
	for _, e := range *p {
		place := len(l)
		for place > 0 && ahead(e, l[place-1]) {
			place--
		}
		l = slices.Insert(l, place, e)
	}
	return l
}

// both is a heap, and what it promises.
type both struct {
	h Heap
	p plain
}

// step does the same call with both, and tells whether they answer the same.
func (b *both) step(call string, l ...Entry) bool {
	var got, want int
	var e, f Entry
	var is, was bool
	switch call {
	case "push":
		got, want = b.h.Push(l...), b.p.push(l...)
	case "drop":
		got, want = b.h.Drop(l...), b.p.drop(l...)
	case "pop":
		e, is = b.h.Pop()
		f, was = b.p.pop()
	case "top":
		e, is = b.h.Top()
		f, was = b.p.top()
	}
	return got == want && e == f && is == was && b.h.Len() == len(b.p)
}

// same tells whether both have the same entries.
func (b *both) same() bool {
	top, is := b.h.Top()
	want, was := b.p.top()
	return slices.Equal(b.h.All(), b.p.all()) && b.h.Len() == len(b.p) && top == want && is == was
}

// empty tells whether both are popped alike, till nothing is there.
func (b *both) empty() bool {
	for len(b.p) > 0 {
		if !b.step("pop") {
			return false
		}
	}
	_, is := b.h.Pop()
	return !is && b.h.Len() == 0 && len(b.h.All()) == 0
}

// lists gives all lists of n of these things, each to be used at once.
func lists[T any](of []T, n int, use func(l []T)) {
	if n == 0 {
		use(nil)
		return
	}
	lists(of, n-1, func(l []T) {
		for _, thing := range of {
			use(append(l[:n-1:n-1], thing))
		}
	})
}

// numbers answers n numbers below top that seem to have no order.
func numbers(n, top int) []int {
	var l []int
	seed := 12345
	for range n {
		seed = (seed*1103515245 + 12345) % (1 << 31)
		l = append(l, seed/(1<<8)%top)
	}
	return l
}

// mixed answers n entries that seem to have no order, of each number below top.
func mixed(n, top int) []Entry {
	var l []Entry
	parts := numbers(3*n, top)
	for i := range n {
		l = append(l, en(parts[3*i]-top/2, parts[3*i+1]-top/2, parts[3*i+2]-top/2))
	}
	return l
}

// P5.1

func TestPush(t *testing.T) {
	var h Heap
	rows := []struct {
		l    []Entry
		want int
	}{
		{nil, 0},
		{[]Entry{}, 0},
		{[]Entry{en(2, 0, 0), en(1, 5, 0), en(1, 4, 9)}, 3},
		{nil, 3},
		{[]Entry{en(1, 4, 9)}, 4},
		{[]Entry{en(0, 0, 0), en(0, 0, 0)}, 6},
	}
	for _, r := range rows {
		if n := h.Push(r.l...); n != r.want || h.Len() != r.want {
			t.Error(r, n, h.Len())
		}
	}
}

func TestPopAndTop(t *testing.T) {
	var h Heap
	h.Push(en(2, 0, 0), en(1, 5, 0), en(1, 4, 9), en(1, 4, 9), en(-3, 7, 7))
	for i, want := range []Entry{en(-3, 7, 7), en(1, 4, 9), en(1, 4, 9), en(1, 5, 0), en(2, 0, 0)} {
		for range 2 {
			if e, ok := h.Top(); e != want || !ok || h.Len() != 5-i {
				t.Error("top", i, e, ok, h.Len())
			}
		}
		if e, ok := h.Pop(); e != want || !ok || h.Len() != 4-i {
			t.Error("pop", i, e, ok, h.Len())
		}
	}
	for range 2 {
		e, ok := h.Top()
		f, is := h.Pop()
		if ok || is || e != (Entry{}) || f != (Entry{}) || h.Len() != 0 {
			t.Error("nothing", e, ok, f, is, h.Len())
		}
	}
	if n := h.Push(en(4, 4, 4)); n != 1 {
		t.Error("again", n)
	}
	if e, ok := h.Pop(); e != en(4, 4, 4) || !ok {
		t.Error("again", e, ok)
	}
}

func TestDrop(t *testing.T) {
	a, b, c := en(1, 1, 1), en(1, 1, 2), en(1, 2, 1)
	rows := []struct {
		l    []Entry
		want int
		left []Entry
	}{
		{nil, 0, []Entry{a, b, b, c}},
		{[]Entry{en(1, 2, 2)}, 0, []Entry{a, b, b, c}},
		{[]Entry{en(0, 0, 0), en(2, 1, 1), en(1, 1, 0)}, 0, []Entry{a, b, b, c}},
		{[]Entry{b}, 1, []Entry{a, b, c}},
		{[]Entry{b, b}, 2, []Entry{a, c}},
		{[]Entry{b, b, b}, 2, []Entry{a, c}},
		{[]Entry{a, a}, 1, []Entry{b, b, c}},
		{[]Entry{en(9, 9, 9), c, en(9, 9, 9), a}, 2, []Entry{b, b}},
		{[]Entry{c, b, a, b}, 4, nil},
		{[]Entry{c, b, a, b, a, b, c}, 4, nil},
	}
	for _, r := range rows {
		var h Heap
		h.Push(b, c, a, b)
		if n := h.Drop(r.l...); n != r.want || h.Len() != len(r.left) || !slices.Equal(h.All(), r.left) {
			t.Error(r, n, h.All())
		}
	}
	var h Heap
	if n := h.Drop(a, en(0, 0, 0)); n != 0 || h.Len() != 0 {
		t.Error("of nothing", n)
	}
}

func TestDropOfAll(t *testing.T) {
	of := []Entry{en(0, 0, 0), en(0, 0, 1), en(0, 1, 0), en(1, 0, 0)}
	for n := range 7 {
		lists(of, n, func(l []Entry) {
			for _, e := range append(of, en(0, 1, 1)) {
				var b both
				if !b.step("push", l...) || !b.step("drop", e) || !b.same() || !b.empty() {
					t.Fatal(l, e)
				}
			}
		})
	}
}

func TestDropFromEveryPlace(t *testing.T) {
	for n := 1; n < 40; n++ {
		l := mixed(n, 1000)
		for _, e := range l {
			var b both
			if !b.step("push", l...) || !b.step("drop", e) || !b.same() || !b.empty() {
				t.Fatal(n, e)
			}
		}
	}
}

// these keys stand as they are told, 11 under 10: the last one, 3, comes in the
// place of 11, and is less than what is above it then.
func TestDropLetsTheLastOneRise(t *testing.T) {
	var b both
	for _, key := range []int{0, 10, 1, 11, 12, 2, 3} {
		b.step("push", en(key, 0, 0))
	}
	if !b.step("drop", en(11, 0, 0)) || !b.same() || !b.empty() {
		t.Error("not in order")
	}
}

func TestCallsOfAll(t *testing.T) {
	a, b, c := en(0, 0, 1), en(0, 1, 0), en(1, 0, 0)
	calls := []struct {
		call string
		l    []Entry
	}{
		{"push", []Entry{a}},
		{"push", []Entry{c, b}},
		{"push", []Entry{b, a, b}},
		{"drop", []Entry{a}},
		{"drop", []Entry{b, c}},
		{"pop", nil},
		{"top", nil},
	}
	places := make([]int, len(calls))
	for i := range places {
		places[i] = i
	}
	lists(places, 6, func(l []int) {
		var both both
		for _, i := range l {
			if !both.step(calls[i].call, calls[i].l...) || !both.same() {
				t.Fatal(l, i)
			}
		}
		if !both.empty() {
			t.Fatal(l)
		}
	})
}

func TestManyCalls(t *testing.T) {
	for _, top := range []int{2, 5, 60} {
		var b both
		l := mixed(4000, top)
		for i, what := range numbers(4000, 8) {
			ok := true
			switch what {
			case 0, 1, 2:
				ok = b.step("push", l[i])
			case 3:
				ok = b.step("push", l[i/2:i/2+3]...)
			case 4:
				ok = b.step("drop", l[i/2], l[i/3], l[i/2])
			case 5:
				ok = b.step("drop", l[i-i%50:i]...)
			case 6:
				ok = b.step("pop")
			case 7:
				ok = b.step("top")
			}
			if !ok || i%40 == 0 && !b.same() {
				t.Fatal(top, i, what)
			}
		}
		if !b.same() || !b.empty() {
			t.Fatal(top)
		}
	}
}

// the greatest one first: a search from the least one on would come to it last.
func TestManyDrops(t *testing.T) {
	const n = 100000
	l := mixed(n, 1000)
	var h Heap
	if h.Push(l...) != n {
		t.Error("push")
	}
	all := h.All()
	slices.Reverse(all)
	for i, e := range all[:n/2] {
		if h.Drop(e) != 1 || h.Len() != n-1-i {
			t.Fatal("drop", i, e)
		}
	}
	if gone := h.Drop(all...); gone != n/2 || h.Len() != 0 || len(h.All()) != 0 {
		t.Error("the others", gone)
	}
}

// P5.2

func TestLess(t *testing.T) {
	top, low := math.MaxInt, math.MinInt
	l := []Entry{
		en(low, low, low), en(low, low, top), en(low, top, low), en(low, top, top),
		en(-1, 0, 0), en(0, -1, 9), en(0, 0, -1), en(0, 0, 0), en(0, 0, 1), en(0, 1, -9), en(1, -9, -9),
		en(top, low, low), en(top, low, top), en(top, top, low), en(top, top, top),
	}
	for i, a := range l {
		for j, b := range l {
			if Less(a, b) != (i < j) {
				t.Error(a, b)
			}
		}
	}
	if !slices.Equal(Sort(l...), l) {
		t.Error("sort", Sort(l...))
	}
	slices.Reverse(l)
	var h Heap
	h.Push(l...)
	slices.Reverse(l)
	if !slices.Equal(h.All(), l) {
		t.Error("all", h.All())
	}
	for _, e := range l {
		if least, ok := h.Pop(); least != e || !ok {
			t.Error("pop", least, e)
		}
	}
}

func TestSort(t *testing.T) {
	rows := []struct{ l, want []Entry }{
		{nil, nil},
		{[]Entry{}, nil},
		{[]Entry{en(3, 2, 1)}, []Entry{en(3, 2, 1)}},
		{[]Entry{en(2, 0, 0), en(1, 5, 0), en(1, 4, 9)}, []Entry{en(1, 4, 9), en(1, 5, 0), en(2, 0, 0)}},
		{[]Entry{en(0, 0, 5), en(0, 0, -5), en(0, 0, 5)}, []Entry{en(0, 0, -5), en(0, 0, 5), en(0, 0, 5)}},
		{[]Entry{{}, {}, {}}, []Entry{{}, {}, {}}},
	}
	for _, r := range rows {
		if got := Sort(r.l...); !slices.Equal(got, r.want) {
			t.Error(r, got)
		}
	}
}

func TestSortAndAllOfAll(t *testing.T) {
	of := []Entry{en(0, 0, 0), en(0, 0, 1), en(0, 1, -1), en(-1, 2, 2), en(1, -3, 0)}
	for n := range 7 {
		lists(of, n, func(l []Entry) {
			p := plain(l)
			want := p.all()
			var h Heap
			h.Push(l...)
			if !slices.Equal(Sort(l...), want) || !slices.Equal(h.All(), want) || h.Len() != n {
				t.Fatal(l, Sort(l...), h.All(), h.Len())
			}
		})
	}
}

func TestAllLeavesAll(t *testing.T) {
	var h Heap
	if h.Len() != 0 || len(h.All()) != 0 {
		t.Error("of nothing", h.Len(), h.All())
	}
	h.Push(en(5, 0, 0), en(4, 0, 0), en(5, 0, 0))
	want := []Entry{en(4, 0, 0), en(5, 0, 0), en(5, 0, 0)}
	for range 3 {
		if !slices.Equal(h.All(), want) || h.Len() != 3 {
			t.Error(h.All(), h.Len())
		}
	}
}

// P5.3

func TestPoppedEntriesRise(t *testing.T) {
	for _, top := range []int{1, 3, 40, 5000} {
		l := mixed(30000, top)
		var h Heap
		h.Push(l[:10000]...)
		for _, e := range l[10000:] {
			h.Push(e)
		}
		var popped []Entry
		for e, ok := h.Pop(); ok; e, ok = h.Pop() {
			popped = append(popped, e)
		}
		for i := 1; i < len(popped); i++ {
			if ahead(popped[i], popped[i-1]) {
				t.Fatal(top, popped[i-1], popped[i])
			}
		}
		if !slices.Equal(popped, Sort(l...)) {
			t.Error(top, "not the same entries")
		}
	}
}

func TestNilHeap(t *testing.T) {
	var h *Heap
	if n := h.Push(en(1, 2, 3), en(0, 0, 0)); n != 0 {
		t.Error("push", n)
	}
	if n := h.Drop(en(1, 2, 3), en(0, 0, 0)); n != 0 {
		t.Error("drop", n)
	}
	if e, ok := h.Pop(); e != (Entry{}) || ok {
		t.Error("pop", e, ok)
	}
	if e, ok := h.Top(); e != (Entry{}) || ok {
		t.Error("top", e, ok)
	}
	if n, l := h.Len(), h.All(); n != 0 || len(l) != 0 {
		t.Error("len", n, l)
	}
	if h.Push() != 0 || h.Drop() != 0 {
		t.Error("no entries")
	}
}

// P1 and P2: memory

// whole answers entries with spare room behind them, which has entries, too.
func whole() []Entry {
	return []Entry{en(3, 0, 0), en(1, 1, 0), en(3, 0, 0), en(2, 0, 5), en(1, 0, 1), en(0, 8, 8), en(0, 7, 7)}
}

// spoil writes a mark all over a list, and behind it.
func spoil(l []Entry) {
	for i := range l {
		l[i] = en(-99, -99, -99)
	}
	_ = append(l, en(-98, -98, -98))
}

func TestListsStayAsTheyAre(t *testing.T) {
	for n := range len(whole()) {
		l := whole()
		var h Heap
		h.Push(l[:n]...)
		h.Drop(l[:n/2]...)
		h.Push(l[:n/2]...)
		sorted, all := Sort(l[:n]...), h.All()
		h.Pop()
		if !slices.Equal(l, whole()) {
			t.Error("changed", n, l)
		}
		spoil(l)
		if want := Sort(whole()[:n]...); !slices.Equal(sorted, want) || !slices.Equal(all, want) {
			t.Error("kept", n, sorted, all)
		}
		if n > 0 && !slices.Equal(h.All(), sorted[1:]) {
			t.Error("kept in the heap", n, h.All())
		}
		l = whole()
		spoil(Sort(l[:n]...))
		if !slices.Equal(l, whole()) {
			t.Error("shared", n, l)
		}
	}
}

func TestAnswersAreNew(t *testing.T) {
	var h Heap
	h.Push(whole()...)
	first, second := h.All(), h.All()
	spoil(first)
	if want := Sort(whole()...); !slices.Equal(second, want) || !slices.Equal(h.All(), want) {
		t.Error("shared", second, h.All())
	}
}

func TestHeapsAreApart(t *testing.T) {
	var g, h Heap
	g.Push(whole()...)
	h.Push(g.All()...)
	if g.Drop(whole()...) != len(whole()) || h.Len() != len(whole()) {
		t.Error("shared", g.All(), h.All())
	}
}

func TestSameCallsSameAnswers(t *testing.T) {
	var g, h Heap
	for i, e := range mixed(500, 6) {
		if g.Push(e, e) != h.Push(e, e) {
			t.Fatal(i)
		}
		if i%3 == 0 {
			a, is := g.Pop()
			b, was := h.Pop()
			if a != b || is != was || !slices.Equal(g.All(), h.All()) {
				t.Fatal(i, a, b)
			}
		}
	}
}
