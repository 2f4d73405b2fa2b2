package shuts

import (
	"fmt"
	"math"
	"math/rand"
	"slices"
	"testing"

	"milepost/api"
	"milepost/sample"
)

// wrongEdges are no edges of six.
var wrongEdges = []int{math.MinInt, -1, 6, 7, 511, 512, math.MaxInt}

// wantAll asks what is closed, by all calls that tell it.
func wantAll(t *testing.T, s *Set, edges int, want ...api.Shut) {
	t.Helper()
	if got := s.All(); !slices.Equal(got, want) {
		t.Errorf("All() = %v, want %v", got, want)
	}
	mask := make([]bool, edges)
	for _, shut := range want {
		mask[shut.Edge] = true
	}
	if got := s.Mask(); !slices.Equal(got, mask) {
		t.Errorf("Mask() = %v, want %v", got, mask)
	}
	for e := -2; e < edges+2; e++ {
		if got := s.Closed(e); got != (0 <= e && e < edges && mask[e]) {
			t.Errorf("Closed(%d) = %t", e, got)
		}
	}
}

// wantTold asks that a Close or an Open told these edges.
func wantTold(t *testing.T, what string, got []int, e api.Errno, want ...int) {
	t.Helper()
	if !slices.Equal(got, want) || e != api.OK {
		t.Errorf("%s: %v, %d; want %v, %d", what, got, e, want, api.OK)
	}
}

// wantRefused asks that a Close or an Open was refused.
func wantRefused(t *testing.T, what string, got []int, e api.Errno) {
	t.Helper()
	if len(got) != 0 || e != api.ErrArg {
		t.Errorf("%s: %v, %d; want none, %d", what, got, e, api.ErrArg)
	}
}

// wantLapsed asks which edges open at a tick.
func wantLapsed(t *testing.T, s *Set, now int, want ...int) {
	t.Helper()
	if got := s.Lapse(now); !slices.Equal(got, want) {
		t.Errorf("Lapse(%d) = %v, want %v", now, got, want)
	}
}

// mustClose closes edges.
func mustClose(t *testing.T, s *Set, until int, edges ...int) {
	t.Helper()
	if _, e := s.Close(until, edges...); e != api.OK {
		t.Fatalf("Close(%d, %v): %d", until, edges, e)
	}
}

// three is a Set of six edges, of which three are closed.
func three(t *testing.T) *Set {
	t.Helper()
	s := New(6)
	mustClose(t, s, 5, 3)
	mustClose(t, s, 9, 1, 4)
	return s
}

func ExampleSet_Lapse() {
	s := New(6)
	s.Close(5, 1)
	fmt.Println(s.Lapse(4), s.Lapse(5))
	// Output: [] [1]
}

// P10.1

func TestNew(t *testing.T) {
	for _, edges := range []int{0, 1, 6, 511, 512} {
		s := New(edges)
		if s == nil {
			t.Fatalf("New(%d) is nil", edges)
		}
		wantAll(t, s, edges)
	}
	for _, edges := range []int{math.MinInt, -1, 513, 1 << 40, math.MaxInt} {
		if s := New(edges); s != nil {
			t.Errorf("New(%d) = %v", edges, s)
		}
	}
}

func TestClose(t *testing.T) {
	s := New(6)
	got, e := s.Close(5, 3, 1)
	wantTold(t, "falling", got, e, 1, 3)
	wantAll(t, s, 6, api.Shut{Edge: 1, Until: 5}, api.Shut{Edge: 3, Until: 5})
	got, e = s.Close(7, 5, 0, 5, 5, 0)
	wantTold(t, "more than once", got, e, 0, 5)
	got, e = s.Close(8)
	wantTold(t, "none", got, e)
	wantAll(t, s, 6, api.Shut{Edge: 0, Until: 7}, api.Shut{Edge: 1, Until: 5}, api.Shut{Edge: 3, Until: 5}, api.Shut{Edge: 5, Until: 7})
}

func TestCloseOnceMore(t *testing.T) {
	s := three(t)
	got, e := s.Close(11, 4, 2, 3)
	wantTold(t, "later", got, e, 2)
	got, e = s.Close(2, 4)
	wantTold(t, "sooner", got, e)
	got, e = s.Close(11, 3, 3)
	wantTold(t, "the same", got, e)
	wantAll(t, s, 6, api.Shut{Edge: 1, Until: 9}, api.Shut{Edge: 2, Until: 11}, api.Shut{Edge: 3, Until: 11}, api.Shut{Edge: 4, Until: 2})
	wantLapsed(t, s, 5, 4)
	wantLapsed(t, s, 10, 1)
}

func TestCloseFromFirstToLast(t *testing.T) {
	s := New(512)
	got, e := s.Close(1, 511, 0)
	wantTold(t, "at 1", got, e, 0, 511)
	got, e = s.Close(1<<40, 510)
	wantTold(t, "far", got, e, 510)
	wantAll(t, s, 512, api.Shut{Edge: 0, Until: 1}, api.Shut{Edge: 510, Until: 1 << 40}, api.Shut{Edge: 511, Until: 1})
}

func TestCloseRefuses(t *testing.T) {
	s := three(t)
	for _, until := range []int{math.MinInt, -1, 0, 1<<40 + 1, math.MaxInt} {
		for what, edges := range map[string][]int{"none": nil, "one": {0}, "a closed one": {1}, "no edge": {6}} {
			got, e := s.Close(until, edges...)
			wantRefused(t, fmt.Sprint("till ", until, ", ", what), got, e)
		}
	}
	for _, wrong := range wrongEdges {
		got, e := s.Close(20, wrong)
		wantRefused(t, fmt.Sprint("edge ", wrong), got, e)
		got, e = s.Close(20, 0, 1, wrong)
		wantRefused(t, fmt.Sprint("edge ", wrong, ", the last one"), got, e)
		got, e = s.Close(20, wrong, 0, 1)
		wantRefused(t, fmt.Sprint("edge ", wrong, ", the first one"), got, e)
	}
	wantAll(t, s, 6, api.Shut{Edge: 1, Until: 9}, api.Shut{Edge: 3, Until: 5}, api.Shut{Edge: 4, Until: 9})
	got, e := New(0).Close(1, 0)
	wantRefused(t, "of no edges", got, e)
}

func TestOpen(t *testing.T) {
	s := three(t)
	got, e := s.Open(4, 0, 1, 4)
	wantTold(t, "some", got, e, 1, 4)
	wantAll(t, s, 6, api.Shut{Edge: 3, Until: 5})
	got, e = s.Open(4, 0, 1)
	wantTold(t, "open ones", got, e)
	got, e = s.Open()
	wantTold(t, "none", got, e)
	wantAll(t, s, 6, api.Shut{Edge: 3, Until: 5})
	wantLapsed(t, s, 20, 3)
	got, e = s.Close(5, 4)
	wantTold(t, "closed again", got, e, 4)
}

func TestOpenRefuses(t *testing.T) {
	s := three(t)
	for _, wrong := range wrongEdges {
		got, e := s.Open(wrong)
		wantRefused(t, fmt.Sprint("edge ", wrong), got, e)
		got, e = s.Open(1, 3, wrong)
		wantRefused(t, fmt.Sprint("edge ", wrong, ", the last one"), got, e)
		got, e = s.Open(wrong, 1, 3)
		wantRefused(t, fmt.Sprint("edge ", wrong, ", the first one"), got, e)
	}
	wantAll(t, s, 6, api.Shut{Edge: 1, Until: 9}, api.Shut{Edge: 3, Until: 5}, api.Shut{Edge: 4, Until: 9})
}

// P10.2

func TestLapse(t *testing.T) {
	s := three(t)
	for _, now := range []int{math.MinInt, -1, 0, 1, 4} {
		wantLapsed(t, s, now)
	}
	wantLapsed(t, s, 5, 3)
	wantLapsed(t, s, 5)
	wantAll(t, s, 6, api.Shut{Edge: 1, Until: 9}, api.Shut{Edge: 4, Until: 9})
	wantLapsed(t, s, 100, 1, 4)
	wantAll(t, s, 6)
	wantLapsed(t, s, math.MaxInt)
	// Time may go back: what is closed hangs on nothing but its own end.
	mustClose(t, s, 3, 2)
	wantLapsed(t, s, 2)
	wantLapsed(t, s, 3, 2)
}

func TestLapseOfFar(t *testing.T) {
	s := New(1)
	mustClose(t, s, 1<<40, 0)
	wantLapsed(t, s, 1<<40-1)
	wantLapsed(t, s, 1<<40, 0)
	mustClose(t, s, 1, 0)
	wantLapsed(t, s, 0)
	wantLapsed(t, s, math.MaxInt, 0)
}

func TestClosedOfNoEdge(t *testing.T) {
	s := New(6)
	mustClose(t, s, 5, 0, 1, 2, 3, 4, 5)
	for _, e := range wrongEdges {
		if s.Closed(e) {
			t.Errorf("edge %d is closed", e)
		}
	}
}

func TestNilSet(t *testing.T) {
	var s *Set
	for _, edges := range [][]int{nil, {0}, {-1}} {
		got, e := s.Close(1, edges...)
		wantRefused(t, "Close", got, e)
		got, e = s.Open(edges...)
		wantRefused(t, "Open", got, e)
	}
	wantLapsed(t, s, 0)
	wantLapsed(t, s, math.MaxInt)
	wantAll(t, s, 0)
}

func TestZeroSet(t *testing.T) {
	var s Set
	got, e := s.Close(1)
	wantTold(t, "none", got, e)
	got, e = s.Close(1, 0)
	wantRefused(t, "Close", got, e)
	got, e = s.Open(0)
	wantRefused(t, "Open", got, e)
	wantLapsed(t, &s, 9)
	wantAll(t, &s, 0)
}

// P10.3

// model is till when each edge is closed, by its number.
type model map[int]int

// all is what it closes, by edge.
func (m model) all() []api.Shut {
	var all []api.Shut
	for e, until := range m {
		all = append(all, api.Shut{Edge: e, Until: until})
	}
	slices.SortFunc(all, func(a, b api.Shut) int { return a.Edge - b.Edge })
	return all
}

// close closes edges, and tells those that were not closed.
func (m model) close(until int, edges []int) []int {
	var told []int
	for _, e := range edges {
		if _, closed := m[e]; !closed {
			told = append(told, e)
		}
		m[e] = until
	}
	slices.Sort(told)
	return told
}

// open opens edges, and tells those that were closed.
func (m model) open(edges []int) []int {
	var told []int
	for _, e := range edges {
		if _, closed := m[e]; closed {
			told = append(told, e)
		}
		delete(m, e)
	}
	slices.Sort(told)
	return told
}

// lapse opens those whose time is over.
func (m model) lapse(now int) []int {
	var told []int
	for _, shut := range m.all() {
		if shut.Until <= now {
			told = append(told, shut.Edge)
			delete(m, shut.Edge)
		}
	}
	return told
}

func TestClosedFromCloseToLapseOrOpen(t *testing.T) {
	r := rand.New(rand.NewSource(10))
	for range 50 {
		edges := 1 + r.Intn(12)
		s, m := New(edges), model{}
		for now := range 60 {
			some := make([]int, r.Intn(4))
			for i := range some {
				some[i] = r.Intn(edges)
			}
			switch r.Intn(3) {
			case 0:
				until := now + 1 + r.Intn(9)
				got, e := s.Close(until, some...)
				wantTold(t, fmt.Sprint("Close ", some), got, e, m.close(until, some)...)
			case 1:
				got, e := s.Open(some...)
				wantTold(t, fmt.Sprint("Open ", some), got, e, m.open(some)...)
			}
			wantLapsed(t, s, now, m.lapse(now)...)
			wantAll(t, s, edges, m.all()...)
		}
	}
}

func TestArgumentsAreNeitherChangedNorKept(t *testing.T) {
	s := New(6)
	room := []int{3, 1, 4, 3, 0, 5}
	mustClose(t, s, 5, room[:4]...)
	if _, e := s.Open(room[:2]...); e != api.OK || !slices.Equal(room, []int{3, 1, 4, 3, 0, 5}) {
		t.Errorf("Open: %d; the edges, or their room: %v", e, room)
	}
	sample.Overwrite(room, 2)
	wantAll(t, s, 6, api.Shut{Edge: 4, Until: 5})
}

func TestAnswersAreNewMemory(t *testing.T) {
	s := New(6)
	given := []int{1, 3, 4}
	closed, _ := s.Close(5, given...)
	sample.Overwrite(closed, 99)
	sample.Overwrite(s.All(), api.Shut{Edge: 99, Until: 99})
	sample.Overwrite(s.Mask(), false)
	wantAll(t, s, 6, api.Shut{Edge: 1, Until: 5}, api.Shut{Edge: 3, Until: 5}, api.Shut{Edge: 4, Until: 5})
	opened, _ := s.Open(given[:1]...)
	sample.Overwrite(opened, 99)
	all, mask := s.All(), s.Mask()
	lapsed := s.Lapse(5)
	if len(all) != 2 || !mask[3] || !slices.Equal(lapsed, []int{3, 4}) {
		t.Errorf("an answer was changed: %v, %v, %v", all, mask, lapsed)
	}
	sample.Overwrite(lapsed, 99)
	if !slices.Equal(given, []int{1, 3, 4}) {
		t.Errorf("an argument was changed: %v", given)
	}
	wantAll(t, s, 6)
}

func TestSetsHaveNothingInCommon(t *testing.T) {
	s, other := three(t), New(6)
	mustClose(t, other, 7, 0, 3)
	wantLapsed(t, other, 100, 0, 3)
	wantAll(t, s, 6, api.Shut{Edge: 1, Until: 9}, api.Shut{Edge: 3, Until: 5}, api.Shut{Edge: 4, Until: 9})
	wantAll(t, other, 6)
}
