package walk

import (
	"fmt"
	"math"
	"math/rand"
	"slices"
	"testing"

	"milepost/api"
	"milepost/graph"
	"milepost/sample"
	"milepost/turns"
)

// wrongEdges are no edges of a graph of five.
var wrongEdges = []int{math.MinInt, -1, 5, 6, math.MaxInt}

// turnsOf is the turns of a graph that may be.
func turnsOf(p api.Graph) *turns.Turns {
	g, _ := graph.New(p)
	return turns.New(g)
}

// fork is a road both ways between two nodes, two ways on from the second one, and a loop there; who came may not go back.
func fork() *turns.Turns {
	return turnsOf(api.Graph{
		Nodes: make([]api.Node, 3),
		Edges: []api.Edge{{From: 0, To: 1, W: 2}, {From: 1, To: 0, W: 3}, {From: 1, To: 2, W: 5}, {From: 1, To: 1, W: 7}, {From: 1, To: 2, W: 11}},
		Bans:  []api.Ban{{A: 0, B: 1}},
	})
}

// anyWalk is a walk from an edge, of at most so many edges.
func anyWalk(r *rand.Rand, x *turns.Turns, from, most int) []int {
	var edges []int
	for range r.Intn(most + 1) {
		next := x.Next(from)
		if len(next) == 0 {
			break
		}
		from = next[r.Intn(len(next))]
		edges = append(edges, from)
	}
	return edges
}

// lastOf is the last edge of a walk.
func lastOf(from int, edges []int) int {
	if len(edges) == 0 {
		return from
	}
	return edges[len(edges)-1]
}

// wantWalk asks that edges are a walk from an edge, and end at a node.
func wantWalk(t *testing.T, x *turns.Turns, node, from int, edges ...int) {
	t.Helper()
	end, ok := End(x, from, edges...)
	if !Valid(x, from, edges...) || end != node || !ok {
		t.Errorf("from %d, %v: Valid %t, End %d, %t; want true, %d, true", from, edges, Valid(x, from, edges...), end, ok, node)
	}
}

// wantNoWalk asks that they are none.
func wantNoWalk(t *testing.T, x *turns.Turns, from int, edges ...int) {
	t.Helper()
	end, ok := End(x, from, edges...)
	if Valid(x, from, edges...) || end != 0 || ok {
		t.Errorf("from %d, %v: Valid %t, End %d, %t; want false, 0, false", from, edges, Valid(x, from, edges...), end, ok)
	}
}

// wantWeight asks for all weights together.
func wantWeight(t *testing.T, x *turns.Turns, want int, isSum bool, edges ...int) {
	t.Helper()
	if got, ok := Weight(x, edges...); got != want || ok != isSum {
		t.Errorf("Weight(%v) = %d, %t; want %d, %t", edges, got, ok, want, isSum)
	}
}

func ExampleWeight() {
	fmt.Println(Weight(nil))
	// Output: 0 true
}

// P8.1

func TestWalks(t *testing.T) {
	x := fork()
	for e, node := range []int{1, 0, 2, 1, 2} {
		wantWalk(t, x, node, e)
	}
	wantWalk(t, x, 2, 0, 2)
	wantWalk(t, x, 1, 0, 3)
	wantWalk(t, x, 1, 0, 3, 3, 3)
	wantWalk(t, x, 0, 0, 3, 1)
	wantWalk(t, x, 2, 1, 0, 3, 1, 0, 4)
}

func TestNoWalks(t *testing.T) {
	x := fork()
	wantNoWalk(t, x, 0, 0)
	wantNoWalk(t, x, 0, 2, 4)
	wantNoWalk(t, x, 2, 2)
	wantNoWalk(t, x, 1, 2)
	// The ban, at the start, and on the way.
	wantNoWalk(t, x, 0, 1)
	wantNoWalk(t, x, 1, 0, 1)
	wantNoWalk(t, x, 0, 1, 0)
	// What comes behind makes nothing good.
	wantNoWalk(t, x, 0, 4, 3)
	wantNoWalk(t, x, 4, 3, 3, 3)
}

func TestNoEdgeInAWalk(t *testing.T) {
	x := fork()
	for _, e := range wrongEdges {
		wantNoWalk(t, x, e)
		wantNoWalk(t, x, e, 0)
		wantNoWalk(t, x, 0, e)
		wantNoWalk(t, x, 0, 3, e)
		wantNoWalk(t, x, 0, 3, e, 3)
	}
}

func TestWeights(t *testing.T) {
	x := fork()
	wantWeight(t, x, 0, true)
	wantWeight(t, x, 2, true, 0)
	wantWeight(t, x, 28, true, 0, 1, 2, 3, 4)
	wantWeight(t, x, 21, true, 3, 3, 3)
	// They need not be a walk.
	wantWeight(t, x, 5, true, 1, 0)
	wantWeight(t, x, 16, true, 4, 2)
	for _, e := range wrongEdges {
		wantWeight(t, x, 0, false, e)
		wantWeight(t, x, 0, false, 0, e)
		wantWeight(t, x, 0, false, e, 0)
	}
}

func TestLongWalk(t *testing.T) {
	x := turnsOf(api.Graph{Nodes: make([]api.Node, 1), Edges: []api.Edge{{W: 65535}}})
	edges := make([]int, 100000)
	wantWeight(t, x, 6553500000, true, edges...)
	wantWalk(t, x, 0, 0, edges...)
}

func TestNilAndZeroTurns(t *testing.T) {
	for what, x := range map[string]*turns.Turns{"nil": nil, "zero": {}, "of no edges": turnsOf(api.Graph{Nodes: make([]api.Node, 1)})} {
		t.Log(what)
		wantWeight(t, x, 0, true)
		for _, e := range []int{math.MinInt, -1, 0, 1, math.MaxInt} {
			wantNoWalk(t, x, e)
			wantNoWalk(t, x, e, e)
			wantWeight(t, x, 0, false, e)
		}
	}
}

func TestCmp(t *testing.T) {
	rising := [][]int{
		nil, {math.MinInt}, {-1}, {0}, {0, -5}, {0, 0}, {0, 0, 0}, {0, 1}, {1}, {1, 2}, {1, 2, 0}, {1, 3}, {1, 10}, {2}, {2, 0, 9}, {10}, {math.MaxInt, math.MinInt}, {math.MaxInt, math.MaxInt},
	}
	for i, a := range rising {
		for j, b := range rising {
			want := 0
			if i < j {
				want = -1
			} else if i > j {
				want = 1
			}
			if got := Cmp(a, b); got != want {
				t.Errorf("Cmp(%v, %v) = %d, want %d", a, b, got, want)
			}
			if got := Cmp(slices.Clone(a), b); got != want {
				t.Errorf("Cmp(%v, %v) = %d, want %d", a, b, got, want)
			}
		}
	}
	if got := Cmp(nil, []int{}); got != 0 {
		t.Errorf("Cmp(nil, empty) = %d", got)
	}
}

func TestAnyEdges(t *testing.T) {
	r := rand.New(rand.NewSource(8))
	for range 300 {
		p := sample.Graph(r.Intn, 1+r.Intn(4), 1+r.Intn(12))
		x := turnsOf(p)
		for range 30 {
			from := r.Intn(len(p.Edges))
			edges := anyWalk(r, x, from, 6)
			wantWalk(t, x, p.Edges[lastOf(from, edges)].To, from, edges...)
			if len(edges) > 0 {
				at := r.Intn(len(edges))
				ahead := lastOf(from, edges[:at])
				edges[at] = r.Intn(len(p.Edges)+2) - 1
				if !x.May(ahead, edges[at]) || at+1 < len(edges) && !x.May(edges[at], edges[at+1]) {
					wantNoWalk(t, x, from, edges...)
				}
			}
		}
	}
}

// P8.2

func TestTwoWalksAreOne(t *testing.T) {
	r := rand.New(rand.NewSource(82))
	for range 1000 {
		x := turnsOf(sample.Graph(r.Intn, 1+r.Intn(4), 1+r.Intn(12)))
		from := r.Intn(x.Edges())
		first := anyWalk(r, x, from, 5)
		second := anyWalk(r, x, lastOf(from, first), 5)
		node, _ := End(x, lastOf(from, first), second...)
		a, _ := Weight(x, first...)
		b, _ := Weight(x, second...)
		both := slices.Concat(first, second)
		wantWalk(t, x, node, from, both...)
		wantWeight(t, x, a+b, true, both...)
	}
}

func TestArgumentsAreNotChanged(t *testing.T) {
	x := fork()
	room := []int{3, 1, 0, 4, 9, 9}
	Valid(x, 0, room[:4]...)
	Weight(x, room[:4]...)
	End(x, 0, room[:4]...)
	Cmp(room[:4], room[1:5])
	if !slices.Equal(room, []int{3, 1, 0, 4, 9, 9}) {
		t.Errorf("the edges, or their room, were changed: %v", room)
	}
	room[0] = 2
	wantNoWalk(t, x, 0, room[:4]...)
	wantWeight(t, x, 21, true, room[:4]...)
}
