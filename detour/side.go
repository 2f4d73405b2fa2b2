package detour

import (
	"math"

	"milepost/dist"
	"milepost/heap"
	"milepost/turns"
)

// unknown is how far it is to an edge that was not reached.
const unknown = -1

// side is a search from one end of a way.
type side struct {
	far     []int // of each edge the least weight that it was reached at
	known   heap.Heap
	settled int                          // the weight of the last one that was settled
	goOn    func(s *side, e, weight int) // reaches those that come next
}

// onwards is the side that goes from an edge to those that may come behind it, and are open.
func onwards(t *turns.Turns, closed []bool, from int) *side {
	return begin(t.Edges(), func(s *side, e, weight int) {
		for _, b := range t.Next(e) {
			if !dist.Closed(closed, b) {
				edge, _ := t.Edge(b)
				s.reach(b, weight+edge.W)
			}
		}
	}, from)
}

// backwards is the side that goes from edges to those that may come ahead of them: one may stand on a closed edge, but not come to it.
func backwards(t *turns.Turns, closed []bool, to ...int) *side {
	return begin(t.Edges(), func(s *side, e, weight int) {
		if dist.Closed(closed, e) {
			return
		}
		edge, _ := t.Edge(e)
		for _, a := range t.Prev(e) {
			s.reach(a, weight+edge.W)
		}
	}, to...)
}

// begin is a side among so many edges, of which some are known at 0.
func begin(edges int, goOn func(s *side, e, weight int), ends ...int) *side {
	s := &side{far: make([]int, edges), goOn: goOn}
	for e := range s.far {
		s.far[e] = unknown
	}
	for _, e := range ends {
		s.reach(e, 0)
	}
	return s
}

// reach makes an edge known at a weight, if it was not, or at more.
func (s *side) reach(e, weight int) {
	if s.far[e] == unknown || weight < s.far[e] {
		s.far[e] = weight
		s.known.Push(e, weight)
	}
}

// step settles one more edge, and tells the weight of the way over it, as far as the other side knows it; the greatest number, if it does not.
func (s *side) step(with *side) int {
	e, weight, _ := s.known.Pop()
	s.settled = weight
	s.goOn(s, e, weight)
	if with.far[e] == unknown {
		return math.MaxInt
	}
	return weight + with.far[e]
}
