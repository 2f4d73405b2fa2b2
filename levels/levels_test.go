package levels

import (
	"fmt"
	"math"
	"math/rand"
	"slices"
	"testing"

	"milepost/api"
	"milepost/net"
	"milepost/rank"
	"milepost/sample"
	"milepost/witness"
)

// wrong are no numbers of a net of four.
var wrong = []int{math.MinInt, -1, 4, 5, math.MaxInt}

// arc is one without a Mid.
func arc(from, to, w int) api.Arc { return api.Arc{From: from, To: to, W: w, Mid: -1} }

// by is one that stands for two.
func by(from, to, w, mid int) api.Arc { return api.Arc{From: from, To: to, W: w, Mid: mid} }

// netOf is a net that may be.
func netOf(n int, arcs ...api.Arc) *net.Net {
	x, _ := net.New(n, arcs...)
	return x
}

// row is a row 1 0 2 3: all are worth the same, so 0 goes first.
func row() *net.Net { return netOf(4, arc(1, 0, 1), arc(0, 2, 2), arc(2, 3, 3)) }

// anyNet is a net of up to so many numbers.
func anyNet(r *rand.Rand, most int) *net.Net {
	n := 2 + r.Intn(most)
	return netOf(n, sample.Arcs(r.Intn, n, r.Intn(5*n), 1+r.Intn(20))...)
}

// wantArcs asks for a list of arcs.
func wantArcs(t *testing.T, what string, got []api.Arc, want ...api.Arc) {
	t.Helper()
	if !slices.Equal(got, want) {
		t.Errorf("%s: %v, want %v", what, got, want)
	}
}

// wantRanks asks for the ranks of 0, 1, ..
func wantRanks(t *testing.T, l *Levels, want ...int) {
	t.Helper()
	for v, rank := range want {
		if got := l.Rank(v); got != rank {
			t.Errorf("Rank(%d) = %d, want %d", v, got, rank)
		}
	}
}

func ExampleBuild() {
	x, _ := net.New(3, api.Arc{From: 1, To: 0, W: 2, Mid: -1}, api.Arc{From: 0, To: 2, W: 3, Mid: -1})
	l := Build(x)
	fmt.Println(l.Rank(0), l.Cuts(), l.Up(1))
	// Output: 0 1 [{1 2 5 0}]
}

// P16.1

func TestRow(t *testing.T) {
	l := Build(row())
	wantRanks(t, l, 0, 1, 2, 3)
	wantArcs(t, "All", l.All(), arc(0, 2, 2), arc(1, 0, 1), by(1, 2, 3, 0), arc(2, 3, 3))
}

// ring is a ring that is as good all round, and so 0 goes first: each one that goes is spanned by the next shortcut.
func ring(more ...api.Arc) *net.Net {
	return netOf(4, append([]api.Arc{arc(0, 1, 1), arc(1, 2, 1), arc(2, 3, 1), arc(3, 0, 1)}, more...)...)
}

func TestShortcutOfShortcuts(t *testing.T) {
	l := Build(ring())
	wantRanks(t, l, 0, 1, 2, 3)
	wantArcs(t, "ring", l.All(), arc(0, 1, 1), arc(1, 2, 1), arc(2, 3, 1), arc(3, 0, 1), by(3, 1, 2, 0), by(3, 2, 3, 1))
}

func TestShortcutInAHeaviersPlace(t *testing.T) {
	l := Build(ring(arc(3, 1, 9)))
	wantRanks(t, l, 0, 1, 2, 3)
	wantArcs(t, "heavier", l.All(), arc(0, 1, 1), arc(1, 2, 1), arc(2, 3, 1), arc(3, 0, 1), by(3, 1, 2, 0), by(3, 2, 3, 1))
	l = Build(ring(arc(3, 1, 2)))
	wantArcs(t, "as heavy", l.All(), arc(0, 1, 1), arc(1, 2, 1), arc(2, 3, 1), arc(3, 0, 1), arc(3, 1, 2), by(3, 2, 3, 1))
}

func TestFirstGoesFirst(t *testing.T) {
	// 2 has the most arcs, and needs no shortcuts.
	wantRanks(t, Build(netOf(4, arc(0, 2, 1), arc(1, 2, 1), arc(3, 2, 1))), 1, 2, 0, 3)
}

func TestTwoRowsOfHandAndOfBuild(t *testing.T) {
	r := rand.New(rand.NewSource(16))
	for k := range 60 {
		x := anyNet(r, 10+k)
		l, left, all, gone := Build(x), x.Copy(), x.Copy(), make([]bool, x.Len())
		for nth := range x.Len() {
			v := rank.First(left, gone)
			if l.Rank(v) != nth {
				t.Fatalf("Rank(%d) = %d, want %d, of %v", v, l.Rank(v), nth, x.All())
			}
			for _, a := range rank.Shortcuts(left, v) {
				left.Put(a)
				all.Put(a)
			}
			left.Cut(v)
			gone[v] = true
		}
		if l.Len() != x.Len() || !slices.Equal(l.All(), all.All()) {
			t.Fatalf("the levels of %v are %v, want %v", x.All(), l.All(), all.All())
		}
	}
}

func TestNetIsNeitherChangedNorKept(t *testing.T) {
	x := row()
	l := Build(x)
	wantArcs(t, "the net", x.All(), arc(0, 2, 2), arc(1, 0, 1), arc(2, 3, 3))
	x.Cut(2)
	x.Put(arc(3, 0, 1))
	wantArcs(t, "the levels", l.All(), arc(0, 2, 2), arc(1, 0, 1), by(1, 2, 3, 0), arc(2, 3, 3))
	l.Cut(0)
	wantArcs(t, "the net", x.All(), arc(1, 0, 1), arc(3, 0, 1))
}

func TestNoNumbers(t *testing.T) {
	if l := Build(nil); l != nil {
		t.Errorf("Build(nil) = %v", l)
	}
	for what, x := range map[string]*net.Net{"zero": {}, "of 0": netOf(0)} {
		if l := Build(x); l == nil || l.Len() != 0 || l.Cuts() != 0 || l.Rank(0) != -1 {
			t.Errorf("%s: %v", what, l)
		}
	}
	l := Build(netOf(3))
	wantRanks(t, l, 0, 1, 2)
	wantArcs(t, "no arcs", l.All())
}

// P16.2

func TestUpAndDown(t *testing.T) {
	l := Build(row())
	wantArcs(t, "Up(0)", l.Up(0), arc(0, 2, 2))
	wantArcs(t, "Up(1)", l.Up(1), by(1, 2, 3, 0))
	wantArcs(t, "Up(2)", l.Up(2), arc(2, 3, 3))
	wantArcs(t, "Up(3)", l.Up(3))
	wantArcs(t, "Down(0)", l.Down(0), arc(1, 0, 1))
	for v := 1; v < 4; v++ {
		wantArcs(t, "Down", l.Down(v))
	}
	// In the order of numbers, not of ranks.
	l = Build(netOf(4, arc(0, 2, 1), arc(1, 2, 1), arc(3, 2, 1), arc(2, 3, 7)))
	wantRanks(t, l, 2, 3, 0, 1)
	wantArcs(t, "Up(2)", l.Up(2), arc(2, 3, 7))
	wantArcs(t, "Down(2)", l.Down(2), arc(0, 2, 1), arc(1, 2, 1), arc(3, 2, 1))
}

func TestNoNumber(t *testing.T) {
	l := Build(row())
	for _, v := range wrong {
		if got := l.Rank(v); got != -1 {
			t.Errorf("Rank(%d) = %d", v, got)
		}
		wantArcs(t, "Up", l.Up(v))
		wantArcs(t, "Down", l.Down(v))
	}
}

func TestNilAndZeroLevels(t *testing.T) {
	for _, l := range []*Levels{nil, {}, {Net: row()}} {
		for _, v := range append(wrong, 0, 1) {
			if got := l.Rank(v); got != -1 {
				t.Errorf("Rank(%d) = %d", v, got)
			}
			wantArcs(t, "Up", l.Up(v))
			wantArcs(t, "Down", l.Down(v))
		}
		if got := l.Cuts(); got != 0 {
			t.Errorf("Cuts() = %d", got)
		}
	}
}

func TestCuts(t *testing.T) {
	for what, c := range map[string]struct {
		net  *net.Net
		want int
	}{
		"row":      {row(), 1},
		"no arcs":  {netOf(4), 0},
		"one arc":  {netOf(4, arc(3, 1, 5)), 0},
		"its own":  {netOf(4, by(3, 1, 5, 0), by(1, 3, 5, 2)), 2},
		"Mid is 0": {netOf(4, by(3, 1, 5, 0)), 1},
	} {
		if got := Build(c.net).Cuts(); got != c.want {
			t.Errorf("%s: Cuts() = %d, want %d", what, got, c.want)
		}
	}
}

func TestGiven(t *testing.T) {
	// A shortcut in the place of a heavier arc with a Mid of its own; one that is as light stays.
	for _, c := range []struct {
		own  api.Arc
		cuts []api.Arc
	}{
		{by(3, 1, 9, 2), []api.Arc{by(3, 1, 2, 0), by(3, 2, 3, 1)}},
		{by(3, 1, 2, 2), []api.Arc{by(3, 2, 3, 1)}},
	} {
		l := Build(ring(c.own))
		for _, a := range l.All() {
			if got := l.Given(a); got == slices.Contains(c.cuts, a) {
				t.Errorf("with %v: Given(%v) = %t", c.own, a, got)
			}
		}
		if l.Cuts() != 2 {
			t.Errorf("with %v: %v", c.own, l.All())
		}
	}
	for _, none := range []*Levels{nil, {}, {Net: row()}} {
		if none.Given(by(3, 1, 9, 2)) {
			t.Errorf("%v has it", none)
		}
	}
}

func TestGivenAreThoseOfTheNet(t *testing.T) {
	r := rand.New(rand.NewSource(164))
	for range 100 {
		n := 2 + r.Intn(20)
		x := netOf(n, sample.Mids(r.Intn, n, sample.Arcs(r.Intn, n, r.Intn(5*n), 1+r.Intn(20)))...)
		l := Build(x)
		for _, a := range l.All() {
			own, is := x.Arc(a.From, a.To)
			if got := l.Given(a); got != (is && own == a) {
				t.Fatalf("Given(%v) = %t, of %v", a, got, x.All())
			}
		}
	}
}

func TestNetsOwnCalls(t *testing.T) {
	l := Build(row())
	a, is := l.Arc(1, 2)
	if got := fmt.Sprint(l.Len(), a, is, l.Out(1), l.In(2), len(l.Copy().All())); got != "4 {1 2 3 0} true [{1 0 1 -1} {1 2 3 0}] [{0 2 2 -1} {1 2 3 0}] 4" {
		t.Errorf("told %s", got)
	}
	// What is put there by them is there, and goes up or down by the ranks that are.
	l.Put(arc(3, 1, 9))
	wantArcs(t, "Down(1)", l.Down(1), arc(3, 1, 9))
}

func TestEachArcGoesUpOrDown(t *testing.T) {
	r := rand.New(rand.NewSource(162))
	for range 100 {
		l := Build(anyNet(r, 20))
		var all []api.Arc
		ranks := make([]int, l.Len())
		for v := range l.Len() {
			ranks[l.Rank(v)]++
			up, down := l.Up(v), l.Down(v)
			if !slices.IsSortedFunc(up, func(a, b api.Arc) int { return a.To - b.To }) || !slices.IsSortedFunc(down, func(a, b api.Arc) int { return a.From - b.From }) {
				t.Fatalf("Up(%d) %v, Down %v", v, up, down)
			}
			for _, a := range up {
				if a.From != v || l.Rank(a.To) <= l.Rank(v) {
					t.Fatalf("Up(%d) = %v", v, up)
				}
			}
			for _, a := range down {
				if a.To != v || l.Rank(a.From) <= l.Rank(v) {
					t.Fatalf("Down(%d) = %v", v, down)
				}
			}
			all = slices.Concat(all, up, down)
		}
		slices.SortFunc(all, func(a, b api.Arc) int { return (a.From-b.From)*l.Len() + a.To - b.To })
		if !slices.Equal(all, l.All()) || slices.Max(ranks) != 1 {
			t.Fatalf("all Up and Down are %v, want %v; of each rank there are %v", all, l.All(), ranks)
		}
	}
}

// P16.3

// highest is of each number the least sum of a row of arcs from one that goes up, and then down, -1 if there is none: by trying arc after arc till nothing gets less.
func highest(l *Levels, from int) []int {
	up, down := make([]int, l.Len()), make([]int, l.Len())
	for v := range up {
		up[v], down[v] = -1, -1
	}
	up[from] = 0
	for isLess := true; isLess; {
		isLess = false
		lower := func(far *int, sum int) {
			if *far < 0 || sum < *far {
				*far, isLess = sum, true
			}
		}
		for v := range up {
			if up[v] >= 0 {
				lower(&down[v], up[v])
				for _, a := range l.Up(v) {
					lower(&up[a.To], up[v]+a.W)
				}
			}
			for _, a := range l.Down(v) {
				if down[a.From] >= 0 {
					lower(&down[v], down[a.From]+a.W)
				}
			}
		}
	}
	return down
}

func TestAsFarUpAndDown(t *testing.T) {
	r := rand.New(rand.NewSource(163))
	for k := range 60 {
		x := anyNet(r, 10+k)
		l := Build(x)
		for v := range x.Len() {
			far := highest(l, v)
			for w := range x.Len() {
				want, is := witness.Far(x, v, w)
				if got, ok := witness.Far(l.Net, v, w); got != want || ok != is {
					t.Fatalf("from %d to %d: %d, %t by all arcs; want %d, %t; of %v", v, w, got, ok, want, is, x.All())
				}
				if !is {
					want = -1
				}
				if far[w] != want {
					t.Fatalf("from %d to %d: %d up and down; want %d; of %v", v, w, far[w], want, x.All())
				}
			}
		}
	}
}

func TestManyNumbers(t *testing.T) {
	r := rand.New(rand.NewSource(1630))
	x := netOf(api.MaxEdges, sample.Arcs(r.Intn, api.MaxEdges, 1000, 50)...)
	l := Build(x)
	for range 20 {
		v := r.Intn(x.Len())
		for w, got := range highest(l, v) {
			if want, is := witness.Far(x, v, w); is && got != want || !is && got != -1 {
				t.Fatalf("from %d to %d: %d; want %d, %t", v, w, got, want, is)
			}
		}
	}
}

func TestAnswersAreNewMemory(t *testing.T) {
	l := Build(row())
	up, down := l.Up(1), l.Down(0)
	for v := range 4 {
		sample.Overwrite(l.Up(v), arc(9, 9, 9))
		sample.Overwrite(l.Down(v), arc(9, 9, 9))
	}
	wantArcs(t, "Up(1)", up, by(1, 2, 3, 0))
	wantArcs(t, "Down(0)", down, arc(1, 0, 1))
	wantArcs(t, "All", l.All(), arc(0, 2, 2), arc(1, 0, 1), by(1, 2, 3, 0), arc(2, 3, 3))
}
