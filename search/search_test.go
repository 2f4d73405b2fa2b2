package search

import (
	"fmt"
	"math"
	"math/rand"
	"slices"
	"testing"

	"milepost/api"
	"milepost/levels"
	"milepost/net"
	"milepost/sample"
	"milepost/witness"
)

// wrong are no numbers of a net of five.
var wrong = []int{math.MinInt, -1, 5, 6, math.MaxInt}

// arc is one without a Mid.
func arc(from, to, w int) api.Arc { return api.Arc{From: from, To: to, W: w, Mid: -1} }

// levelsOf is the levels of a net that may be.
func levelsOf(n int, arcs ...api.Arc) *levels.Levels {
	x, _ := net.New(n, arcs...)
	return levels.Build(x)
}

// row is a row 1 0 2 3, and 4 alone; ranks are 0 to 4, and there is a shortcut from 1 to 2.
func row() *levels.Levels { return levelsOf(5, arc(1, 0, 1), arc(0, 2, 2), arc(2, 3, 3)) }

// anyNet is a net of up to so many numbers.
func anyNet(r *rand.Rand, most int) *net.Net {
	n := 2 + r.Intn(most)
	x, _ := net.New(n, sample.Arcs(r.Intn, n, r.Intn(5*n), 1+r.Intn(20))...)
	return x
}

// anyNumbers is up to so many numbers, of which some are none.
func anyNumbers(r *rand.Rand, n, most int) []int {
	var all []int
	for range r.Intn(most + 1) {
		all = append(all, r.Intn(n+2)-1)
	}
	return all
}

// wantAll asks for a list.
func wantAll(t *testing.T, what string, got []int, want ...int) {
	t.Helper()
	if !slices.Equal(got, want) {
		t.Errorf("%s: %v, want %v", what, got, want)
	}
}

// wantWay asks how far it is, and for the way.
func wantWay(t *testing.T, l *levels.Levels, sum int, way []int, from int, to ...int) {
	t.Helper()
	if got, ok := Dist(l, from, to...); got != sum || !ok {
		t.Errorf("Dist(%d, %v) = %d, %t; want %d", from, to, got, ok, sum)
	}
	if got, ok := Path(l, from, to...); !slices.Equal(got, way) || !ok {
		t.Errorf("Path(%d, %v) = %v, %t; want %v", from, to, got, ok, way)
	}
}

// wantNoWay asks for none.
func wantNoWay(t *testing.T, l *levels.Levels, from int, to ...int) {
	t.Helper()
	if got, ok := Dist(l, from, to...); got != 0 || ok {
		t.Errorf("Dist(%d, %v) = %d, %t", from, to, got, ok)
	}
	if got, ok := Path(l, from, to...); len(got) != 0 || ok {
		t.Errorf("Path(%d, %v) = %v, %t", from, to, got, ok)
	}
}

// sums is of each number the least sum of a row of the arcs that on tells of each, from one of some to it, -1 if there is none: by trying arc after arc till nothing gets less.
func sums(l *levels.Levels, on func(v int) []api.Arc, ends []int) []int {
	far := make([]int, l.Len())
	for v := range far {
		far[v] = -1
		if slices.Contains(ends, v) {
			far[v] = 0
		}
	}
	for isLess := true; isLess; {
		isLess = false
		for v := range far {
			for _, a := range on(v) {
				to := a.From + a.To - v
				if sum := far[v] + a.W; far[v] >= 0 && (far[to] < 0 || sum < far[to]) {
					far[to], isLess = sum, true
				}
			}
		}
	}
	return far
}

// nearest is how far it is in a net to the nearest of some; -1, if there is no way.
func nearest(x *net.Net, from int, to []int) int {
	least := -1
	for _, v := range to {
		if far, is := witness.Far(x, from, v); is && (least < 0 || far < least) {
			least = far
		}
	}
	return least
}

func ExampleDist() {
	x, _ := net.New(3, api.Arc{From: 1, To: 0, W: 2, Mid: -1}, api.Arc{From: 0, To: 2, W: 3, Mid: -1})
	l := levels.Build(x)
	fmt.Println(Dist(l, 1, 2))
	fmt.Println(Path(l, 1, 2))
	// Output:
	// 5 true
	// [1 0 2] true
}

// P18.1

func TestUp(t *testing.T) {
	l := row()
	wantAll(t, "from 0", Up(l, 0), 0, -1, 2, 5, -1)
	wantAll(t, "from 1", Up(l, 1), -1, 0, 3, 6, -1)
	wantAll(t, "from 1 and 3", Up(l, 1, 3), -1, 0, 3, 0, -1)
	wantAll(t, "from 0 and 1", Up(l, 0, 1, 0), 0, 0, 2, 5, -1)
	wantAll(t, "from 4", Up(l, 4), -1, -1, -1, -1, 0)
}

func TestDown(t *testing.T) {
	l := levelsOf(5, arc(0, 1, 1), arc(2, 0, 2), arc(3, 2, 3))
	wantAll(t, "to 0", Down(l, 0), 0, -1, 2, 5, -1)
	wantAll(t, "to 1", Down(l, 1), -1, 0, 3, 6, -1)
	wantAll(t, "to 1 and 3", Down(l, 3, 1), -1, 0, 3, 0, -1)
	wantAll(t, "to 4", Down(l, 4), -1, -1, -1, -1, 0)
}

func TestNoNumbersArePassedOver(t *testing.T) {
	l := row()
	wantAll(t, "Up of none", Up(l), -1, -1, -1, -1, -1)
	wantAll(t, "Down of none", Down(l), -1, -1, -1, -1, -1)
	wantAll(t, "Up of wrong ones", Up(l, wrong...), -1, -1, -1, -1, -1)
	wantAll(t, "Down of wrong ones", Down(l, wrong...), -1, -1, -1, -1, -1)
	wantAll(t, "Up", Up(l, append(wrong, 2)...), -1, -1, 0, 3, -1)
	wantAll(t, "Down", Down(l, append(wrong, 0)...), 0, 1, -1, -1, -1)
}

func TestNilAndZeroLevels(t *testing.T) {
	for _, l := range []*levels.Levels{nil, {}, levelsOf(0)} {
		for _, v := range append(wrong, 0, 1) {
			wantAll(t, "Up", Up(l, v))
			wantAll(t, "Down", Down(l, v))
			wantAll(t, "Every", Every(l, v))
			wantNoWay(t, l, v, v)
			wantNoWay(t, l, v)
		}
		wantAll(t, "Up", Up(l))
		wantAll(t, "Down", Down(l))
		wantAll(t, "Every", Every(l))
	}
}

func TestUpAndDownAsTheChapterSays(t *testing.T) {
	r := rand.New(rand.NewSource(18))
	for k := range 100 {
		l := levels.Build(anyNet(r, 10+k/2))
		ends := anyNumbers(r, l.Len(), 4)
		wantAll(t, "Up", Up(l, ends...), sums(l, l.Up, ends)...)
		wantAll(t, "Down", Down(l, ends...), sums(l, l.Down, ends)...)
		if t.Failed() {
			t.Fatalf("of %v: %v", ends, l.All())
		}
	}
}

func TestDistIsTheLeastOfBoth(t *testing.T) {
	r := rand.New(rand.NewSource(180))
	for k := range 100 {
		l := levels.Build(anyNet(r, 10+k/2))
		for from := range l.Len() {
			to := anyNumbers(r, l.Len(), 3)
			want := -1
			down := Down(l, to...)
			for v, sum := range Up(l, from) {
				if both := sum + down[v]; sum >= 0 && down[v] >= 0 && (want < 0 || both < want) {
					want = both
				}
			}
			if got, ok := Dist(l, from, to...); ok != (want >= 0) || got != max(want, 0) {
				t.Fatalf("Dist(%d, %v) = %d, %t; want %d; of %v", from, to, got, ok, want, l.All())
			}
		}
	}
}

// P18.1, P18.2

func TestDistAndPath(t *testing.T) {
	l := row()
	wantWay(t, l, 1, []int{1, 0}, 1, 0)
	wantWay(t, l, 6, []int{1, 0, 2, 3}, 1, 3)
	wantWay(t, l, 5, []int{0, 2, 3}, 0, 3)
	// The nearest one, wherever it stands.
	wantWay(t, l, 3, []int{1, 0, 2}, 1, 3, 2)
	wantWay(t, l, 3, []int{1, 0, 2}, 1, 2, 3, 2)
	wantWay(t, l, 3, []int{1, 0, 2}, 1, -1, 4, 2, 5)
}

func TestFromOneToItself(t *testing.T) {
	l := row()
	for v := range 5 {
		wantWay(t, l, 0, []int{v}, v, v)
		wantWay(t, l, 0, []int{v}, v, 4, 3, 2, 1, 0)
	}
}

func TestNoWay(t *testing.T) {
	l := row()
	wantNoWay(t, l, 3, 0)
	wantNoWay(t, l, 0, 1)
	wantNoWay(t, l, 0, 4)
	wantNoWay(t, l, 4, 0, 1, 2, 3)
	wantNoWay(t, l, 0)
	wantNoWay(t, l, 0, wrong...)
	for _, v := range wrong {
		wantNoWay(t, l, v, 0)
		wantNoWay(t, l, v, v)
		wantNoWay(t, l, 0, v)
	}
}

func TestGreatestWeights(t *testing.T) {
	l := levelsOf(4, arc(0, 1, api.Far), arc(1, 2, 1), arc(2, 3, api.Far))
	wantWay(t, l, api.Far, []int{0, 1}, 0, 1)
	wantWay(t, l, api.Far, []int{2, 3}, 2, 3)
}

// P18.2, P18.3

func TestAsFarAsInTheNet(t *testing.T) {
	r := rand.New(rand.NewSource(183))
	for k := range 100 {
		x := anyNet(r, 10+k/2)
		l := levels.Build(x)
		to := anyNumbers(r, x.Len(), 4)
		every := Every(l, to...)
		for from := range x.Len() {
			want := nearest(x, from, to)
			if every[from] != want {
				t.Fatalf("Every(%v) of %d is %d; want %d; of %v", to, from, every[from], want, x.All())
			}
			if want < 0 {
				wantNoWay(t, l, from, to...)
				continue
			}
			far, ok := Dist(l, from, to...)
			if !ok || far != want {
				t.Fatalf("Dist(%d, %v) = %d, %t; want %d; of %v", from, to, far, ok, want, x.All())
			}
			wantPathOfTheNet(t, x, l, want, from, to...)
		}
	}
}

// wantPathOfTheNet asks for a way by arcs of the net itself, of a weight.
func wantPathOfTheNet(t *testing.T, x *net.Net, l *levels.Levels, want, from int, to ...int) {
	t.Helper()
	way, is := Path(l, from, to...)
	if !is || way[0] != from || !slices.Contains(to, way[len(way)-1]) {
		t.Fatalf("Path(%d, %v) = %v, %t, of %v", from, to, way, is, x.All())
	}
	sum := 0
	for i, v := range way[1:] {
		a, isArc := x.Arc(way[i], v)
		if !isArc {
			t.Fatalf("Path(%d, %v) = %v, of %v", from, to, way, x.All())
		}
		sum += a.W
	}
	if sum != want {
		t.Fatalf("Path(%d, %v) = %v is %d, want %d; of %v", from, to, way, sum, want, x.All())
	}
}

// P18.2, of arcs that have a Mid of their own

// by is one that has a Mid of its own.
func by(from, to, w, mid int) api.Arc { return api.Arc{From: from, To: to, W: w, Mid: mid} }

func TestPathByArcsWithAMid(t *testing.T) {
	// Nothing lies over the Mid; what lies there is heavier; as light; lighter; a shortcut goes over such arcs, or takes the place of one.
	wantWay(t, levelsOf(3, by(0, 1, 5, 2)), 5, []int{0, 1}, 0, 1)
	wantWay(t, levelsOf(3, by(0, 1, 1, 2), arc(0, 2, 9), arc(2, 1, 9)), 1, []int{0, 1}, 0, 1)
	wantWay(t, levelsOf(3, by(0, 1, 18, 2), arc(0, 2, 9), arc(2, 1, 9)), 18, []int{0, 1}, 0, 1)
	wantWay(t, levelsOf(3, by(0, 1, 19, 2), arc(0, 2, 9), arc(2, 1, 9)), 18, []int{0, 2, 1}, 0, 1)
	wantWay(t, levelsOf(4, by(1, 0, 1, 3), by(0, 2, 2, 1)), 3, []int{1, 0, 2}, 1, 2)
	wantWay(t, levelsOf(4, arc(1, 0, 1), arc(0, 2, 2), by(1, 2, 9, 3)), 3, []int{1, 0, 2}, 1, 2)
	// Each of two is said to be over the other one's end.
	wantWay(t, levelsOf(3, by(0, 1, 4, 2), by(0, 2, 5, 1)), 4, []int{0, 1}, 0, 1)
	wantNoWay(t, levelsOf(3, by(0, 1, 5, 2)), 0, 2)
}

func TestAnyPathByArcsWithAMid(t *testing.T) {
	r := rand.New(rand.NewSource(182))
	for k := range 100 {
		n := 3 + r.Intn(10+k/2)
		x, _ := net.New(n, sample.Mids(r.Intn, n, sample.Arcs(r.Intn, n, r.Intn(5*n), 1+r.Intn(20)))...)
		l := levels.Build(x)
		to := anyNumbers(r, n, 4)
		for from := range n {
			want := nearest(x, from, to)
			if want < 0 {
				wantNoWay(t, l, from, to...)
				continue
			}
			wantPathOfTheNet(t, x, l, want, from, to...)
		}
	}
}

// Who need not go on, stalls.

func TestStalls(t *testing.T) {
	// 2 is above 1, and is reached at 4; from there an arc of 3 comes down.
	arcs := func(v int) []api.Arc { return map[int][]api.Arc{0: {arc(0, 1, 9), arc(0, 2, 4)}}[v] }
	back := func(v int) []api.Arc { return map[int][]api.Arc{1: {arc(3, 1, 1), arc(2, 1, 3)}}[v] }
	s := begin(&side{up: arcs, down: back}, 4, []int{0})
	wantAll(t, "all", s.all(), 0, 9, 4, -1)
	for sum, want := range map[int]bool{9: true, 8: true, 7: false, 6: false, 0: false} {
		if got := s.stalls(1, sum); got != want {
			t.Errorf("1 at %d stalls: %t", sum, got)
		}
	}
	if s.stalls(2, 4) || s.stalls(0, 0) {
		t.Error("one to which nothing comes down stalls")
	}
}

func TestWhoIsNearestDoesNotStall(t *testing.T) {
	r := rand.New(rand.NewSource(184))
	stalled := 0
	for range 100 {
		x := anyNet(r, 40)
		l := levels.Build(x)
		from := r.Intn(x.Len())
		s := upFrom(l, []int{from})
		for v, far := range s.all() {
			if far == unknown || !s.stalls(v, far) {
				continue
			}
			stalled++
			if far == nearest(x, from, []int{v}) {
				t.Fatalf("%d stalls, of %v", v, x.All())
			}
		}
	}
	if stalled == 0 {
		t.Error("nobody ever stalled")
	}
}

func TestArgumentsAndAnswers(t *testing.T) {
	l := row()
	all := l.All()
	room := []int{2, 3, 9, 9}
	up, down, every := Up(l, room[:2]...), Down(l, room[:2]...), Every(l, room[:2]...)
	way, _ := Path(l, 1, room[:2]...)
	Dist(l, 1, room[:2]...)
	for _, list := range [][]int{up, down, every, way} {
		sample.Overwrite(list, 7)
	}
	if !slices.Equal(room, []int{2, 3, 9, 9}) || !slices.Equal(l.All(), all) {
		t.Errorf("an argument was changed: %v, %v", room, l.All())
	}
	wantWay(t, l, 3, []int{1, 0, 2}, 1, room[:2]...)
	wantAll(t, "Every", Every(l, 3), 5, 6, 3, 0, -1)
}
