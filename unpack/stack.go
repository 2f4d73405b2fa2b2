package unpack

// pair is the two ends of an arc.
type pair struct {
	from int
	to   int
}

// item is an arc that is to be gone, or, on top of all that lay below it, the end of one that was gone by its two.
type item struct {
	pair
	end bool
}

// stack is what is still to be gone, the next one on top.
type stack struct {
	items []item
	open  map[pair]struct{} // the arcs that are being gone by their two
}

// push puts an arc on top.
func (s *stack) push(p pair) { s.items = append(s.items, item{pair: p}) }

// pop takes the next arc from the top; false, if there is none.
func (s *stack) pop() (pair, bool) {
	for len(s.items) > 0 {
		last := len(s.items) - 1
		top := s.items[last]
		s.items = s.items[:last]
		if !top.end {
			return top.pair, true
		}
		delete(s.open, top.pair)
	}
	return pair{}, false
}

// unfold puts the two arcs for which one stands in its place; false, if that one is being gone already: it would be its own part.
func (s *stack) unfold(p pair, mid int) bool {
	if _, is := s.open[p]; is {
		return false
	}
	s.open[p] = struct{}{}
	s.items = append(s.items, item{pair: p, end: true})
	s.push(pair{mid, p.to})
	s.push(pair{p.from, mid})
	return true
}
