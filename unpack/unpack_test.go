package unpack

import (
	"fmt"
	"math"
	"math/rand"
	"slices"
	"testing"

	"milepost/api"
	"milepost/levels"
	"milepost/net"
	"milepost/sample"
)

// arc is one without a Mid.
func arc(from, to, w int) api.Arc { return api.Arc{From: from, To: to, W: w, Mid: -1} }

// by is one that stands for two.
func by(from, to, mid int) api.Arc { return api.Arc{From: from, To: to, W: 1, Mid: mid} }

// levelsOf is the levels of a net that may be.
func levelsOf(n int, arcs ...api.Arc) *levels.Levels {
	x, _ := net.New(n, arcs...)
	return levels.Build(x)
}

// ring is a ring of five, of which each one that was taken out is spanned by the next shortcut: 4 to 1 over 0, 4 to 2 over 1, 4 to 3 over 2.
func ring() *levels.Levels {
	return levelsOf(5, arc(0, 1, 1), arc(1, 2, 1), arc(2, 3, 1), arc(3, 4, 1), arc(4, 0, 1))
}

// put is levels of so many numbers, with arcs as they are.
func put(n int, arcs ...api.Arc) *levels.Levels {
	l := levelsOf(n)
	for _, a := range arcs {
		l.Put(a)
	}
	return l
}

// wantArc asks for the numbers on the way of an arc.
func wantArc(t *testing.T, l *levels.Levels, from, to int, want ...int) {
	t.Helper()
	if got, e := Arc(l, from, to); e != api.OK || !slices.Equal(got, want) {
		t.Errorf("Arc(%d, %d) = %v, %d; want %v", from, to, got, e, want)
	}
}

// wantNoArc asks for none.
func wantNoArc(t *testing.T, l *levels.Levels, from, to int) {
	t.Helper()
	if got, e := Arc(l, from, to); e != api.ErrNone || len(got) != 0 {
		t.Errorf("Arc(%d, %d) = %v, %d", from, to, got, e)
	}
}

// wantRow asks for the numbers on a way by some stops.
func wantRow(t *testing.T, l *levels.Levels, stops []int, want ...int) {
	t.Helper()
	if got, e := Row(l, stops...); e != api.OK || !slices.Equal(got, want) {
		t.Errorf("Row(%v) = %v, %d; want %v", stops, got, e, want)
	}
}

// wantNoRow asks for none.
func wantNoRow(t *testing.T, l *levels.Levels, stops ...int) {
	t.Helper()
	if got, e := Row(l, stops...); e != api.ErrNone || len(got) != 0 {
		t.Errorf("Row(%v) = %v, %d", stops, got, e)
	}
}

func ExampleArc() {
	x, _ := net.New(3, api.Arc{From: 1, To: 0, W: 2, Mid: -1}, api.Arc{From: 0, To: 2, W: 3, Mid: -1})
	fmt.Println(Arc(levels.Build(x), 1, 2))
	// Output: [1 0 2] 0
}

// P17.1

func TestArc(t *testing.T) {
	l := ring()
	wantArc(t, l, 0, 1, 0, 1)
	wantArc(t, l, 4, 0, 4, 0)
	wantArc(t, l, 4, 1, 4, 0, 1)
	wantArc(t, l, 4, 2, 4, 0, 1, 2)
	wantArc(t, l, 4, 3, 4, 0, 1, 2, 3)
	// A shortcut in both parts.
	wantArc(t, put(5, by(0, 4, 2), by(0, 2, 1), by(2, 4, 3), arc(0, 1, 1), arc(1, 2, 1), arc(2, 3, 1), arc(3, 4, 1)), 0, 4, 0, 1, 2, 3, 4)
}

func TestNoArc(t *testing.T) {
	l := ring()
	wantNoArc(t, l, 0, 4)
	wantNoArc(t, l, 1, 0)
	for _, v := range []int{math.MinInt, -1, 5, math.MaxInt} {
		wantNoArc(t, l, v, 0)
		wantNoArc(t, l, 0, v)
		wantNoArc(t, l, v, v)
	}
	for v := range 5 {
		wantNoArc(t, l, v, v)
	}
	for _, none := range []*levels.Levels{nil, {}, levelsOf(0), levelsOf(2)} {
		wantNoArc(t, none, 0, 1)
		wantNoArc(t, none, 0, 0)
		wantNoArc(t, none, -1, 5)
	}
}

func TestPartThatIsNotThere(t *testing.T) {
	wantNoArc(t, put(3, by(0, 2, 1)), 0, 2)
	wantNoArc(t, put(3, by(0, 2, 1), arc(0, 1, 1)), 0, 2)
	wantNoArc(t, put(3, by(0, 2, 1), arc(1, 2, 1)), 0, 2)
	wantArc(t, put(3, by(0, 2, 1), arc(1, 2, 1), arc(0, 1, 1)), 0, 2, 0, 1, 2)
}

func TestWayWithoutEnd(t *testing.T) {
	// Each of the first two is a part of the other one.
	l := put(3, by(0, 1, 2), by(0, 2, 1), arc(2, 1, 1), arc(1, 2, 1))
	wantNoArc(t, l, 0, 1)
	wantNoArc(t, l, 0, 2)
	wantArc(t, l, 2, 1, 2, 1)
	// In the second part, and further down.
	l = put(5, by(0, 1, 2), by(2, 1, 3), by(3, 1, 2), arc(0, 2, 1), arc(2, 3, 1), arc(3, 2, 1), by(4, 1, 0), arc(4, 0, 1))
	wantNoArc(t, l, 0, 1)
	wantNoArc(t, l, 4, 1)
}

func TestPartThatComesTwice(t *testing.T) {
	l := put(5, by(0, 3, 4), by(0, 4, 1), by(4, 3, 1), by(4, 1, 0), by(0, 1, 2), arc(0, 2, 1), arc(2, 1, 1), arc(1, 4, 1), arc(1, 3, 1), arc(4, 0, 1))
	wantArc(t, l, 0, 3, 0, 2, 1, 4, 0, 2, 1, 3)
}

func TestDeepShortcuts(t *testing.T) {
	// From 0 to v over v - 1, for each v.
	l := put(512)
	for v := 1; v < 512; v++ {
		l.Put(arc(v-1, v, 1))
		if v > 1 {
			l.Put(by(0, v, v-1))
		}
	}
	way, e := Arc(l, 0, 511)
	if e != api.OK || len(way) != 512 || !slices.IsSorted(way) || way[511] != 511 {
		t.Errorf("%d numbers, %d", len(way), e)
	}
}

func TestRow(t *testing.T) {
	l := ring()
	wantRow(t, l, []int{3, 4, 3, 4}, 3, 4, 0, 1, 2, 3, 4)
	wantRow(t, l, []int{4, 2, 3}, 4, 0, 1, 2, 3)
	wantRow(t, l, []int{0, 1}, 0, 1)
	for _, v := range []int{math.MinInt, -1, 0, 4, 5, math.MaxInt} {
		wantRow(t, l, []int{v}, v)
		wantRow(t, nil, []int{v}, v)
	}
	wantRow(t, l, nil)
	wantRow(t, nil, nil)
	wantRow(t, &levels.Levels{}, []int{7}, 7)
}

func TestNoRow(t *testing.T) {
	l := ring()
	wantNoRow(t, l, 0, 2)
	wantNoRow(t, l, 0, 1, 0)
	wantNoRow(t, l, 0, 2, 3)
	wantNoRow(t, l, 0, 0)
	wantNoRow(t, l, 4, 3, -1)
	wantNoRow(t, l, -1, 3)
	wantNoRow(t, nil, 0, 1)
	wantNoRow(t, &levels.Levels{}, 0, 1)
}

func TestWay(t *testing.T) {
	way := func(l *levels.Levels, stops ...int) string { return fmt.Sprint(Way(l, stops...)) }
	row := func(l *levels.Levels, stops ...int) string { return fmt.Sprint(Row(l, stops...)) }
	// An arc with a Mid of its own is gone as it is, and so it is as a part of a shortcut.
	l := levelsOf(4, api.Arc{From: 1, To: 0, W: 1, Mid: 3}, by(0, 2, 3))
	for what, got := range map[string][2]string{
		"its own":       {way(l, 1, 0), "[1 0] 0"},
		"a part":        {way(l, 1, 2), "[1 0 2] 0"},
		"both":          {way(l, 1, 0, 2), "[1 0 2] 0"},
		"one":           {way(l, 3), "[3] 0"},
		"none":          {way(l), "[] 0"},
		"no arc":        {way(l, 1, 0, 3), "[] 4"},
		"no number":     {way(l, 0, -1), "[] 4"},
		"of nil":        {way(nil, 0, 1), "[] 4"},
		"one of nil":    {way(nil, 7), "[7] 0"},
		"of the zero":   {way(&levels.Levels{}, 0, 1), "[] 4"},
		"without Mids":  {way(ring(), 4, 3), "[4 0 1 2 3] 0"},
		"Row goes over": {row(l, 1, 0), "[] 4"},
	} {
		if got[0] != got[1] {
			t.Errorf("%s: %s, want %s", what, got[0], got[1])
		}
	}
}

// P17.2

// wantRowOfTheNet asks whether a row stands for an arc: by arcs of the net, and as heavy.
func wantRowOfTheNet(t *testing.T, x *net.Net, a api.Arc, row []int, e api.Errno) {
	t.Helper()
	if e != api.OK || row[0] != a.From || row[len(row)-1] != a.To {
		t.Fatalf("for %v: %v, %d; of %v", a, row, e, x.All())
	}
	sum := 0
	for i, to := range row[1:] {
		b, is := x.Arc(row[i], to)
		if !is {
			t.Fatalf("for %v: %v; of %v", a, row, x.All())
		}
		sum += b.W
	}
	if sum != a.W {
		t.Fatalf("for %v: %v, of %d; of %v", a, row, sum, x.All())
	}
}

func TestArcsOfTheNetAndAsHeavy(t *testing.T) {
	r := rand.New(rand.NewSource(17))
	for k := range 60 {
		n := 2 + r.Intn(10+k)
		x, _ := net.New(n, sample.Arcs(r.Intn, n, r.Intn(5*n), 1+r.Intn(20))...)
		l := levels.Build(x)
		for _, a := range l.All() {
			row, e := Arc(l, a.From, a.To)
			wantRowOfTheNet(t, x, a, row, e)
		}
	}
}

func TestWayIsOfTheNetAndAsHeavy(t *testing.T) {
	r := rand.New(rand.NewSource(170))
	for k := range 60 {
		n := 3 + r.Intn(10+k)
		x, _ := net.New(n, sample.Mids(r.Intn, n, sample.Arcs(r.Intn, n, r.Intn(5*n), 1+r.Intn(20)))...)
		l := levels.Build(x)
		for _, a := range l.All() {
			row, e := Way(l, a.From, a.To)
			wantRowOfTheNet(t, x, a, row, e)
		}
	}
}

func TestArgumentsAndAnswers(t *testing.T) {
	l := ring()
	all := l.All()
	room := []int{4, 2, 3, 9, 9}
	row, _ := Row(l, room[:3]...)
	one, _ := Row(l, room[:1]...)
	way, _ := Arc(l, 4, 2)
	sample.Overwrite(row, 7)
	sample.Overwrite(one, 7)
	sample.Overwrite(way, 7)
	if !slices.Equal(room, []int{4, 2, 3, 9, 9}) || !slices.Equal(l.All(), all) {
		t.Errorf("an argument was changed: %v, %v", room, l.All())
	}
	wantArc(t, l, 4, 2, 4, 0, 1, 2)
	wantRow(t, l, room[:3], 4, 0, 1, 2, 3)
}
