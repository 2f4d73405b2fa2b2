package search

import (
	"math"
	"slices"

	"milepost/api"
	"milepost/levels"
)

// meeting is where two sides meet, at the least sum of both, and the stops of the way from end to end.
type meeting struct {
	at    int
	sum   int
	stops []int
}

// meet is the best meeting between a number and some others; false, if there is none.
func meet(l *levels.Levels, from int, to []int) (meeting, bool) {
	if l == nil {
		return meeting{}, false
	}
	up, down := upFrom(l, []int{from}), downTo(l, to)
	m := meeting{at: nobody, sum: math.MaxInt}
	for isUp, isDown := true, true; isUp || isDown; {
		isUp, isDown = up.step(down, &m), down.step(up, &m)
	}
	if m.at == nobody {
		return meeting{}, false
	}
	// The row of the side that goes up begins at the meeting, too.
	stops := up.row(m.at)
	slices.Reverse(stops)
	m.stops = append(stops, down.row(m.at)[1:]...)
	return m, true
}

// step settles one more, and notes whether the two sides meet there at less; false, if all that are left are too far for that.
func (s *side) step(with *side, m *meeting) bool {
	v, sum, e := s.known.Pop()
	if e != api.OK || sum >= m.sum {
		return false
	}
	if rest := with.far[v]; rest != unknown && sum+rest < m.sum {
		m.at, m.sum = v, sum+rest
	}
	if !s.stalls(v, sum) {
		s.goOn(v, sum)
	}
	return true
}
