package search

import (
	"milepost/api"
	"milepost/heap"
	"milepost/levels"
)

// unknown is how far it is to a number that was not reached; nobody is who stands ahead of an end.
const (
	unknown = -1
	nobody  = -1
)

// side is a search up the levels from one end of a way: along the arcs from the one, against them from the other.
type side struct {
	far   []int // of each number the least sum that it was reached at
	via   []int // and from whom
	known heap.Heap
	up    func(v int) []api.Arc // the arcs between a number and those above it, by which the search goes on
	down  func(v int) []api.Arc // those that go the other way
}

// upFrom is the side that goes from some numbers along the arcs.
func upFrom(l *levels.Levels, from []int) *side {
	return begin(&side{up: l.Up, down: l.Down}, l.Len(), from)
}

// downTo is the side that goes from some numbers against the arcs.
func downTo(l *levels.Levels, to []int) *side {
	return begin(&side{up: l.Down, down: l.Up}, l.Len(), to)
}

// begin lets a side know some of so many numbers at 0.
func begin(s *side, numbers int, ends []int) *side {
	s.far, s.via = make([]int, numbers), make([]int, numbers)
	for v := range s.far {
		s.far[v] = unknown
	}
	for _, v := range ends {
		if 0 <= v && v < numbers {
			s.reach(v, 0, nobody)
		}
	}
	return s
}

// reach makes a number known at a sum, if it was not, or at more.
func (s *side) reach(v, sum, via int) {
	if s.far[v] == unknown || sum < s.far[v] {
		s.far[v], s.via[v] = sum, via
		s.known.Push(v, sum)
	}
}

// goOn makes those above a number known.
func (s *side) goOn(v, sum int) {
	for _, a := range s.up(v) {
		s.reach(other(a, v), sum+a.W, v)
	}
}

// stalls tells whether a number at a sum need not go on: one above it is known from which it is nearer, so no shortest way goes up here.
func (s *side) stalls(v, sum int) bool {
	for _, a := range s.down(v) {
		if above := s.far[other(a, v)]; above != unknown && above+a.W < sum {
			return true
		}
	}
	return false
}

// all goes on from everybody, and tells how far all are.
func (s *side) all() []int {
	for v, sum, e := s.known.Pop(); e == api.OK; v, sum, e = s.known.Pop() {
		s.goOn(v, sum)
	}
	return s.far
}

// row is the numbers by which a number was reached, itself first.
func (s *side) row(v int) []int {
	var row []int
	for ; v != nobody; v = s.via[v] {
		row = append(row, v)
	}
	return row
}

// other is the end of an arc that is not v.
func other(a api.Arc, v int) int {
	if a.From == v {
		return a.To
	}
	return a.From
}
