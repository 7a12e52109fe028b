package heap

// pile is an entry, and how often it stands in a list.
type pile struct {
	Entry
	times int
}

// list is unlike entries in piles, none of which is less than the one above
// it: the one at half its place, counted from 1.
type list struct {
	piles []pile
	// without a place for each entry every drop would go through the whole list.
	places map[Entry]int
	count  int
}

// add takes one entry more.
func (l *list) add(e Entry) {
	l.count++
	if place, is := l.places[e]; is {
		l.piles[place].times++
		return
	}
	if l.places == nil {
		l.places = map[Entry]int{}
	}
	last := len(l.piles)
	l.piles = append(l.piles, pile{e, 1})
	l.places[e] = last
	l.rise(last)
}

// take takes one entry away, and tells whether it was there.
func (l *list) take(e Entry) bool {
	place, is := l.places[e]
	if !is {
		return false
	}
	l.count--
	l.piles[place].times--
	if l.piles[place].times == 0 {
		l.remove(place)
	}
	return true
}

// remove takes the pile at a place away; the last one comes there instead.
func (l *list) remove(place int) {
	last := len(l.piles) - 1
	delete(l.places, l.piles[place].Entry)
	moved := l.piles[last]
	l.piles = l.piles[:last]
	if place == last {
		return
	}
	l.put(place, moved)
	// it stood under other piles than these, and may be less than the one
	// above or greater than those below; after it has risen sinking does nothing.
	l.rise(place)
	l.sink(place)
}

// put lets a pile stand at a place.
func (l *list) put(place int, p pile) {
	l.piles[place] = p
	l.places[p.Entry] = place
}

// swap changes the piles at two places for one another.
func (l *list) swap(a, b int) {
	pileA, pileB := l.piles[a], l.piles[b]
	l.put(a, pileB)
	l.put(b, pileA)
}

// rise brings the pile at a place above those that it is less than.
func (l *list) rise(place int) {
next:
	above := (place - 1) / 2
	if place == 0 || !l.less(place, above) {
		return
	}
	l.swap(place, above)
	place = above
	goto next
}

// sink brings the pile at a place below those that are less than it.
func (l *list) sink(place int) {
next:
	least := place
	for below := 2*place + 1; below <= 2*place+2; below++ {
		if below < len(l.piles) && l.less(below, least) {
			least = below
		}
	}
	if least == place {
		return
	}
	l.swap(place, least)
	place = least
	goto next
}

// less tells whether the pile at a is less than the one at b.
func (l *list) less(a, b int) bool {
	return Less(l.piles[a].Entry, l.piles[b].Entry)
}

// entries answers all entries, each as often as it stands here.
func (l *list) entries() []Entry {
	all := make([]Entry, 0, l.count)
	for _, p := range l.piles {
		for range p.times {
			all = append(all, p.Entry)
		}
	}
	return all
}
