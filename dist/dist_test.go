package dist

import (
	"fmt"
	"math"
	"math/rand"
	"slices"
	"testing"

	"milepost/api"
	"milepost/graph"
	"milepost/sample"
	"milepost/turns"
)

// wrong are neither edges nor nodes of a graph of up to six.
var wrong = []int{math.MinInt, -1, 6, 7, math.MaxInt}

// turnsOf is the turns of a graph that may be.
func turnsOf(p api.Graph) *turns.Turns {
	g, _ := graph.New(p)
	return turns.New(g)
}

// fork is a short way (0, 1) and a long one (2) from node 0 to node 2, an edge on to node 3 (3), one back from there to node 0 (4), and one that comes to node 0 from nowhere (5).
func fork(bans ...api.Ban) *turns.Turns {
	return turnsOf(api.Graph{
		Nodes: make([]api.Node, 6),
		Edges: []api.Edge{{From: 0, To: 1, W: 2}, {From: 1, To: 2, W: 3}, {From: 0, To: 2, W: 9}, {From: 2, To: 3, W: 4}, {From: 3, To: 0, W: 7}, {From: 4, To: 0, W: 1}},
		Bans:  bans,
	})
}

// shut is a list in which these edges are closed, and which ends behind the last one.
func shut(edges ...int) []bool {
	var closed []bool
	for _, e := range edges {
		for len(closed) <= e {
			closed = append(closed, false)
		}
		closed[e] = true
	}
	return closed
}

// wantFar asks for a list of distances.
func wantFar(t *testing.T, what string, got []int, want ...int) {
	t.Helper()
	if !slices.Equal(got, want) {
		t.Errorf("%s: %v, want %v", what, got, want)
	}
}

// wantBetween asks for one distance; -1 of none.
func wantBetween(t *testing.T, x *turns.Turns, e, node int, closed []bool, want int) {
	t.Helper()
	got, ok := Between(x, e, node, closed)
	if ok != (want >= 0) || got != max(want, 0) {
		t.Errorf("Between(%d, %d, %v) = %d, %t; want %d", e, node, closed, got, ok, want)
	}
}

// lastsOf is of each edge the least weight of all walks from e without a closed edge of which it is the last one, -1 of none: by trying all that have no edge twice, as no other one can be the lightest.
func lastsOf(x *turns.Turns, e int, closed []bool) []int {
	least := make([]int, x.Edges())
	for f := range least {
		least[f] = -1
	}
	used := make([]bool, x.Edges())
	var walk func(at, weight int)
	walk = func(at, weight int) {
		if least[at] < 0 || weight < least[at] {
			least[at] = weight
		}
		for _, b := range x.Next(at) {
			if isClosed := b < len(closed) && closed[b]; !isClosed && !used[b] {
				edge, _ := x.Edge(b)
				used[b] = true
				walk(b, weight+edge.W)
				used[b] = false
			}
		}
	}
	walk(e, 0)
	return least
}

// leastAt is the least of a list of distances to the ends of all edges, of those that end at a node; -1 if there is none.
func leastAt(x *turns.Turns, lasts []int, node int) int {
	least := -1
	for f, far := range lasts {
		if edge, _ := x.Edge(f); edge.To == node && far >= 0 && (least < 0 || far < least) {
			least = far
		}
	}
	return least
}

func ExampleTo() {
	g, _ := graph.New(api.Graph{Nodes: make([]api.Node, 2), Edges: []api.Edge{{From: 0, To: 1, W: 5}, {From: 1, To: 0, W: 7}}})
	fmt.Println(To(turns.New(g), 1, nil))
	// Output: [0 5]
}

// P11.1

func TestTo(t *testing.T) {
	x := fork()
	wantFar(t, "to 2", To(x, 2, nil), 3, 0, 0, 12, 5, 5)
	wantFar(t, "to 0", To(x, 0, nil), 14, 11, 11, 7, 0, 0)
	// Nothing goes to node 4: not even the edge from there comes to it.
	wantFar(t, "to 4", To(x, 4, nil), -1, -1, -1, -1, -1, -1)
	wantFar(t, "to 5", To(x, 5, nil), -1, -1, -1, -1, -1, -1)
}

func TestToWithABan(t *testing.T) {
	wantFar(t, "round", To(fork(api.Ban{A: 4, B: 0}), 2, nil), 3, 0, 0, 16, 9, 5)
	wantFar(t, "cut off", To(fork(api.Ban{A: 0, B: 1}, api.Ban{A: 4, B: 2}), 2, nil), -1, 0, 0, -1, -1, 9)
}

func TestToWithClosedEdges(t *testing.T) {
	x := fork()
	// From a closed edge one may go, and one that ends there need not be gone.
	wantFar(t, "1", To(x, 2, shut(1)), -1, 0, 0, 16, 9, 9)
	wantFar(t, "0", To(x, 2, shut(0)), 3, 0, 0, 16, 9, 9)
	wantFar(t, "4", To(x, 2, shut(4)), 3, 0, 0, -1, 5, 5)
	wantFar(t, "1, 2", To(x, 2, shut(1, 2)), -1, 0, 0, -1, -1, -1)
	wantFar(t, "all", To(x, 2, shut(0, 1, 2, 3, 4, 5)), -1, 0, 0, -1, -1, -1)
}

func TestFrom(t *testing.T) {
	x := fork()
	wantFar(t, "from 0", From(x, 0, nil), 0, 3, 23, 7, 14, -1)
	wantFar(t, "from 5", From(x, 5, nil), 2, 5, 9, 9, 16, 0)
	wantFar(t, "with a ban", From(fork(api.Ban{A: 5, B: 0}), 5, nil), 22, 25, 9, 13, 20, 0)
	wantFar(t, "1 closed", From(x, 5, shut(1)), 2, -1, 9, 13, 20, 0)
	wantFar(t, "3 closed", From(x, 5, shut(3)), 2, 5, 9, -1, -1, 0)
	// The edge itself may be closed: of it 0, by none, whatever comes back to it.
	wantFar(t, "0 closed", From(x, 0, shut(0)), 0, 3, 23, 7, 14, -1)
	wantFar(t, "all closed", From(x, 0, shut(0, 1, 2, 3, 4, 5)), 0, -1, -1, -1, -1, -1)
}

func TestBetween(t *testing.T) {
	x := fork()
	wantBetween(t, x, 0, 2, nil, 3)
	wantBetween(t, x, 1, 2, nil, 0)
	wantBetween(t, x, 1, 2, shut(1), 0)
	wantBetween(t, x, 5, 2, nil, 5)
	wantBetween(t, x, 5, 2, shut(1), 9)
	wantBetween(t, x, 5, 2, shut(1, 2), -1)
	wantBetween(t, x, 0, 4, nil, -1)
}

func TestClosedBehindTheEnds(t *testing.T) {
	x := fork()
	want := To(x, 2, shut(1))
	wantFar(t, "a longer list", To(x, 2, shut(1, 6, 99)), want...)
	wantFar(t, "all open", To(x, 2, make([]bool, 3)), To(x, 2, nil)...)
	wantFar(t, "empty", To(x, 2, []bool{}), To(x, 2, nil)...)
	wantFar(t, "from, a longer list", From(x, 5, shut(1, 6, 99)), From(x, 5, shut(1))...)
	for _, c := range []struct {
		closed []bool
		e      int
		want   bool
	}{{nil, 0, false}, {shut(1), 1, true}, {shut(1), 0, false}, {shut(1), 2, false}, {shut(1), -1, false}, {shut(1), math.MinInt, false}, {shut(1), math.MaxInt, false}} {
		if got := Closed(c.closed, c.e); got != c.want {
			t.Errorf("Closed(%v, %d) = %t", c.closed, c.e, got)
		}
	}
}

func TestNoEdgeAndNoNode(t *testing.T) {
	x := fork()
	for _, n := range wrong {
		wantFar(t, fmt.Sprint("to ", n), To(x, n, nil))
		wantFar(t, fmt.Sprint("from ", n), From(x, n, nil))
		wantBetween(t, x, n, 0, nil, -1)
		wantBetween(t, x, 0, n, nil, -1)
		wantBetween(t, x, n, n, nil, -1)
	}
}

func TestNilAndZeroTurns(t *testing.T) {
	for what, x := range map[string]*turns.Turns{"nil": nil, "zero": {}, "of a zero graph": turns.New(&graph.Graph{})} {
		for _, n := range []int{math.MinInt, -1, 0, 1, math.MaxInt} {
			wantFar(t, what, To(x, n, shut(0)))
			wantFar(t, what, From(x, n, shut(0)))
			wantBetween(t, x, n, n, nil, -1)
		}
	}
	one := turnsOf(api.Graph{Nodes: make([]api.Node, 1)})
	wantFar(t, "no edges", To(one, 0, nil))
	wantFar(t, "no edges", From(one, 0, nil))
	wantBetween(t, one, 0, 0, nil, -1)
}

func TestLoops(t *testing.T) {
	x := turnsOf(api.Graph{Nodes: make([]api.Node, 2), Edges: []api.Edge{{W: 3}, {From: 0, To: 1, W: 5}}})
	wantFar(t, "to 0", To(x, 0, nil), 0, -1)
	wantFar(t, "to 1", To(x, 1, nil), 5, 0)
	wantFar(t, "from 0", From(x, 0, nil), 0, 5)
	wantFar(t, "from 1", From(x, 1, nil), -1, 0)
}

func TestAsAllWalksTell(t *testing.T) {
	r := rand.New(rand.NewSource(11))
	for range 400 {
		nodes := 1 + r.Intn(5)
		x := turnsOf(sample.Ties(r.Intn, nodes, 1+r.Intn(8)))
		closed := sample.Mask(r.Intn, r.Intn(10), 4)
		lasts := make([][]int, x.Edges())
		for e := range lasts {
			lasts[e] = lastsOf(x, e, closed)
			wantFar(t, fmt.Sprint("from ", e), From(x, e, closed), lasts[e]...)
		}
		for node := range nodes {
			var want []int
			for e := range lasts {
				want = append(want, leastAt(x, lasts[e], node))
				wantBetween(t, x, e, node, closed, want[e])
			}
			wantFar(t, fmt.Sprint("to ", node), To(x, node, closed), want...)
		}
		if t.Failed() {
			t.Fatalf("of %v, closed %v", x.Plain(), closed)
		}
	}
}

func TestHeaviestAndMost(t *testing.T) {
	p := api.Graph{Nodes: make([]api.Node, 256)}
	for i := range 512 {
		p.Edges = append(p.Edges, api.Edge{From: i % 256, To: (i + 1) % 256, W: 65535})
	}
	p.Bans = []api.Ban{{A: 255, B: 0}, {A: 511, B: 0}}
	x := turnsOf(p)
	far, last := To(x, 0, nil), From(x, 0, nil)
	if far[0] != 255*65535 || far[255] != 0 || last[511] != 255*65535 || last[256] != 256*65535 || last[0] != 0 {
		t.Errorf("%d, %d, %d, %d, %d", far[0], far[255], last[511], last[256], last[0])
	}
	// Of as many turns as may be.
	y := turnsOf(sample.Loops(1, 512, 1024))
	if far, last := To(y, 0, nil), From(y, 511, nil); slices.Max(far) != 0 || len(far) != 512 || slices.Max(last) != 1 || len(last) != 512 {
		t.Errorf("%v, %v", far, last)
	}
}

// P11.2

func TestBestNext(t *testing.T) {
	r := rand.New(rand.NewSource(112))
	for range 100 {
		nodes := 1 + r.Intn(20)
		x := turnsOf(sample.Graph(r.Intn, nodes, 1+r.Intn(60)))
		closed := sample.Mask(r.Intn, x.Edges(), 5)
		node := r.Intn(nodes)
		far := To(x, node, closed)
		for e := range far {
			best := -1
			for _, b := range x.Next(e) {
				if edge, _ := x.Edge(b); !closed[b] && far[b] >= 0 && (best < 0 || far[b]+edge.W < best) {
					best = far[b] + edge.W
				}
			}
			if edge, _ := x.Edge(e); edge.To == node {
				best = 0
			}
			if far[e] != best {
				t.Fatalf("from %d to %d: %d, want %d", e, node, far[e], best)
			}
		}
	}
}

func TestNoLessWithMoreClosed(t *testing.T) {
	r := rand.New(rand.NewSource(113))
	for range 100 {
		x := turnsOf(sample.Graph(r.Intn, 8, 30))
		closed := sample.Mask(r.Intn, 30, 6)
		ahead := To(x, 0, closed)
		closed[r.Intn(30)] = true
		for e, far := range To(x, 0, closed) {
			if ahead[e] < 0 && far >= 0 || far >= 0 && far < ahead[e] {
				t.Fatalf("from %d: %d, and %d with more closed", e, ahead[e], far)
			}
		}
	}
}

func TestArgumentsAndAnswers(t *testing.T) {
	x := fork()
	room := []bool{false, true, false, true, true}
	to, from := To(x, 2, room[:3]), From(x, 0, room[:3])
	sample.Overwrite(To(x, 2, room[:3]), 99)
	sample.Overwrite(From(x, 0, room[:3]), 99)
	if !slices.Equal(room, []bool{false, true, false, true, true}) {
		t.Errorf("the closed ones, or their room, were changed: %v", room)
	}
	sample.Overwrite(room, true)
	wantFar(t, "to", to, -1, 0, 0, 16, 9, 9)
	wantFar(t, "from", from, 0, -1, -1, -1, -1, -1)
	wantFar(t, "to once more", To(x, 2, shut(1)), to...)
	wantFar(t, "from once more", From(x, 0, shut(1)), from...)
}
