package least

import (
	"fmt"
	"math"
	"math/rand"
	"slices"
	"testing"

	"milepost/api"
	"milepost/dist"
	"milepost/graph"
	"milepost/sample"
	"milepost/turns"
	"milepost/walk"
)

// turnsOf is the turns of a graph that may be.
func turnsOf(p api.Graph) *turns.Turns {
	g, _ := graph.New(p)
	return turns.New(g)
}

// fork is four ways from the end of edge 6 (node 0) to node 3, of 6 all: 0 4, 1 3 5, 1 2, and the lone 7; and nothing that goes back.
func fork(bans ...api.Ban) *turns.Turns {
	return turnsOf(api.Graph{
		Nodes: make([]api.Node, 6),
		Edges: []api.Edge{{From: 0, To: 1, W: 4}, {From: 0, To: 2, W: 1}, {From: 2, To: 3, W: 5}, {From: 2, To: 4, W: 2}, {From: 1, To: 3, W: 2}, {From: 4, To: 3, W: 3}, {From: 5, To: 0, W: 8}, {From: 0, To: 3, W: 6}},
		Bans:  bans,
	})
}

// shut is a list of eight edges in which these are closed.
func shut(edges ...int) []bool {
	closed := make([]bool, 8)
	for _, e := range edges {
		closed[e] = true
	}
	return closed
}

// wantWay asks for a way, of Way and of Along.
func wantWay(t *testing.T, x *turns.Turns, e, node int, closed []bool, want ...int) {
	t.Helper()
	if got, ok := Way(x, e, node, closed); !ok || !slices.Equal(got, want) {
		t.Errorf("Way(%d, %d, %v) = %v, %t; want %v", e, node, closed, got, ok, want)
	}
	if got, ok := Along(x, e, dist.To(x, node, closed), closed); !ok || !slices.Equal(got, want) {
		t.Errorf("Along(%d, to %d, %v) = %v, %t; want %v", e, node, closed, got, ok, want)
	}
}

// wantNoWay asks for none, of Way and of Along.
func wantNoWay(t *testing.T, x *turns.Turns, e, node int, closed []bool) {
	t.Helper()
	if got, ok := Way(x, e, node, closed); ok || len(got) != 0 {
		t.Errorf("Way(%d, %d, %v) = %v, %t", e, node, closed, got, ok)
	}
	if got, ok := Along(x, e, dist.To(x, node, closed), closed); ok || len(got) != 0 {
		t.Errorf("Along(%d, to %d, %v) = %v, %t", e, node, closed, got, ok)
	}
}

// best is the least of all lightest walks from an edge that end at a node and have no closed edge: by trying all that have no edge twice, as no other one can be the lightest.
func best(x *turns.Turns, e, node int, closed []bool) (way []int, found bool) {
	lightest := 0
	var row []int
	var try func(at int)
	try = func(at int) {
		weight, _ := walk.Weight(x, row...)
		if edge, _ := x.Edge(at); edge.To == node && (!found || weight < lightest || weight == lightest && walk.Cmp(row, way) < 0) {
			way, lightest, found = slices.Clone(row), weight, true
		}
		for _, b := range x.Next(at) {
			if isClosed := b < len(closed) && closed[b]; !isClosed && !slices.Contains(row, b) {
				row = append(row, b)
				try(b)
				row = row[:len(row)-1]
			}
		}
	}
	try(e)
	return way, found
}

func ExampleWay() {
	g, _ := graph.New(api.Graph{Nodes: make([]api.Node, 2), Edges: []api.Edge{{From: 0, To: 1, W: 5}, {From: 1, To: 0, W: 7}}})
	fmt.Println(Way(turns.New(g), 0, 1, nil))
	fmt.Println(Way(turns.New(g), 0, 0, nil))
	// Output:
	// [] true
	// [1] true
}

// P12.1

func TestLeastOfTheShortest(t *testing.T) {
	x := fork()
	wantWay(t, x, 6, 3, nil, 0, 4)
	wantWay(t, x, 6, 3, shut(0), 1, 2)
	wantWay(t, x, 6, 3, shut(4, 2), 1, 3, 5)
	wantWay(t, x, 6, 3, shut(0, 1), 7)
	wantWay(t, fork(api.Ban{A: 0, B: 4}, api.Ban{A: 1, B: 2}), 6, 3, nil, 1, 3, 5)
	wantWay(t, fork(api.Ban{A: 6, B: 0}, api.Ban{A: 6, B: 1}), 6, 3, nil, 7)
}

func TestShortestAheadOfLeast(t *testing.T) {
	// The lesser numbers are a unit longer.
	x := turnsOf(api.Graph{Nodes: make([]api.Node, 3), Edges: []api.Edge{{From: 0, To: 1, W: 2}, {From: 1, To: 2, W: 2}, {From: 0, To: 2, W: 3}, {From: 2, To: 0, W: 1}}})
	wantWay(t, x, 3, 2, nil, 2)
	wantWay(t, x, 3, 2, []bool{false, false, true}, 0, 1)
}

func TestWayOfNoEdges(t *testing.T) {
	x := fork()
	for e, node := range []int{1, 2, 3, 4, 3, 3, 0, 3} {
		wantWay(t, x, e, node, nil)
		wantWay(t, x, e, node, shut(0, 1, 2, 3, 4, 5, 6, 7))
	}
	loop := turnsOf(api.Graph{Nodes: make([]api.Node, 1), Edges: []api.Edge{{W: 1}}})
	wantWay(t, loop, 0, 0, nil)
}

func TestFromAClosedEdge(t *testing.T) {
	wantWay(t, fork(), 6, 3, shut(6), 0, 4)
	wantWay(t, fork(), 1, 3, shut(1), 2)
}

func TestClosedBehindTheEnds(t *testing.T) {
	x := fork()
	wantWay(t, x, 6, 3, shut(0)[:1], 1, 2)
	wantWay(t, x, 6, 3, append(shut(0), true, true), 1, 2)
	wantWay(t, x, 6, 3, []bool{}, 0, 4)
}

func TestNoWay(t *testing.T) {
	x := fork()
	wantNoWay(t, x, 0, 2, nil)
	wantNoWay(t, x, 6, 5, nil)
	wantNoWay(t, x, 6, 3, shut(0, 1, 7))
	wantNoWay(t, fork(api.Ban{A: 0, B: 4}), 0, 3, nil)
	for _, n := range []int{math.MinInt, -1, 8, 9, math.MaxInt} {
		wantNoWay(t, x, n, 3, nil)
		wantNoWay(t, x, 6, n, nil)
		wantNoWay(t, x, n, n, nil)
	}
	wantNoWay(t, x, 6, 6, nil)
}

func TestNilAndZeroTurns(t *testing.T) {
	for what, x := range map[string]*turns.Turns{"nil": nil, "zero": {}, "of no edges": turnsOf(api.Graph{Nodes: make([]api.Node, 1)})} {
		t.Log(what)
		for _, n := range []int{math.MinInt, -1, 0, math.MaxInt} {
			wantNoWay(t, x, n, 0, nil)
			if way, ok := Along(x, n, []int{0, 0}, nil); ok || len(way) != 0 {
				t.Errorf("Along(%d) = %v, %t", n, way, ok)
			}
		}
	}
}

func TestNoStepToWhereNoWayIs(t *testing.T) {
	// From edge 0 it is 1 to node 2, by edge 3; from edge 1, whose weight is 2, there is no way.
	x := turnsOf(api.Graph{Nodes: make([]api.Node, 4), Edges: []api.Edge{{From: 0, To: 1, W: 1}, {From: 1, To: 3, W: 2}, {From: 1, To: 3, W: 1}, {From: 1, To: 2, W: 1}}})
	wantWay(t, x, 0, 2, nil, 3)
}

func TestAlongOfOtherNumbers(t *testing.T) {
	x := fork()
	for _, far := range [][]int{nil, {}, {0, 0, 0, 0, 0, 0}, {-1, -1, -1, -1, -1, -1, -1}} {
		if way, ok := Along(x, 6, far, nil); ok || len(way) != 0 {
			t.Errorf("Along(6, %v) = %v, %t", far, way, ok)
		}
	}
	// Nothing is asked of these, but that they end (and that none stands beside a false).
	r := rand.New(rand.NewSource(120))
	for range 2000 {
		y := turnsOf(sample.Ties(r.Intn, 1+r.Intn(3), 1+r.Intn(12)))
		far := make([]int, r.Intn(14))
		for i := range far {
			far[i] = r.Intn(12) - 2
			if r.Intn(6) == 0 {
				far[i] = []int{math.MinInt, math.MinInt + 1, math.MinInt + 2, math.MaxInt, math.MaxInt - 1, math.MaxInt - 2}[r.Intn(6)]
			}
		}
		for e := range y.Edges() {
			if way, ok := Along(y, e, far, sample.Mask(r.Intn, 12, 8)); !ok && len(way) != 0 {
				t.Fatalf("Along(%d, %v) = %v, false", e, far, way)
			}
		}
	}
}

func TestAsAllWalksTell(t *testing.T) {
	r := rand.New(rand.NewSource(12))
	for range 400 {
		nodes := 1 + r.Intn(5)
		x := turnsOf(sample.Ties(r.Intn, nodes, 1+r.Intn(7)))
		closed := sample.Mask(r.Intn, r.Intn(10), 5)
		for e := range x.Edges() {
			for node := range nodes {
				if want, found := best(x, e, node, closed); found {
					wantWay(t, x, e, node, closed, want...)
				} else {
					wantNoWay(t, x, e, node, closed)
				}
			}
		}
		if t.Failed() {
			t.Fatalf("of %v, closed %v", x.Plain(), closed)
		}
	}
}

func TestLongestWay(t *testing.T) {
	p := api.Graph{Nodes: make([]api.Node, 256)}
	var want []int
	for i := range 512 {
		p.Edges = append(p.Edges, api.Edge{From: i / 2, To: (i/2 + 1) % 256, W: 65535})
		if i >= 2 && i%2 == 0 {
			want = append(want, i)
		}
	}
	wantWay(t, turnsOf(p), 0, 0, nil, want...)
}

// P12.2

func TestLengthAndWhatIsLeft(t *testing.T) {
	r := rand.New(rand.NewSource(122))
	for range 60 {
		x := turnsOf(sample.Ties(r.Intn, 10, 40))
		closed := sample.Mask(r.Intn, 40, 6)
		node, e := r.Intn(10), r.Intn(40)
		way, ok := Way(x, e, node, closed)
		far, is := dist.Between(x, e, node, closed)
		weight, _ := walk.Weight(x, way...)
		if ok != is || weight != far || ok && !walk.Valid(x, e, way...) {
			t.Fatalf("Way(%d, %d) = %v, %t, of %d; want %d, %t", e, node, way, ok, weight, far, is)
		}
		for i, on := range way {
			wantWay(t, x, on, node, closed, way[i+1:]...)
		}
	}
}

func TestArgumentsAndAnswers(t *testing.T) {
	x := fork()
	far, closed := dist.To(x, 3, shut(0)), shut(0)
	way, _ := Way(x, 6, 3, closed)
	along, _ := Along(x, 6, far, closed)
	again, _ := Along(x, 6, far, closed)
	sample.Overwrite(again, 99)
	again, _ = Way(x, 6, 3, closed)
	sample.Overwrite(again, 99)
	if !slices.Equal(far, dist.To(x, 3, shut(0))) || !slices.Equal(closed, shut(0)) {
		t.Errorf("an argument was changed: %v, %v", far, closed)
	}
	sample.Overwrite(far, 99)
	sample.Overwrite(closed, true)
	if !slices.Equal(way, []int{1, 2}) || !slices.Equal(along, []int{1, 2}) {
		t.Errorf("an answer was changed: %v, %v", way, along)
	}
	wantWay(t, x, 6, 3, shut(0), 1, 2)
}
