package turns

import (
	"fmt"
	"math"
	"math/rand"
	"slices"
	"testing"

	"milepost/api"
	"milepost/graph"
	"milepost/sample"
)

// wrongEdges are no edges of a graph of five.
var wrongEdges = []int{math.MinInt, -1, 5, 6, math.MaxInt}

// fork is a road both ways between two nodes, two ways on from the second one, and a loop there.
func fork(bans ...api.Ban) api.Graph {
	return api.Graph{
		Nodes: make([]api.Node, 3),
		Edges: []api.Edge{{From: 0, To: 1, W: 2}, {From: 1, To: 0, W: 3}, {From: 1, To: 2, W: 5}, {From: 1, To: 1, W: 7}, {From: 1, To: 2, W: 11}},
		Bans:  bans,
	}
}

// mustNew is the turns of a graph that may be.
func mustNew(t *testing.T, p api.Graph) *Turns {
	t.Helper()
	g, _ := graph.New(p)
	x := New(g)
	if x == nil {
		t.Fatalf("no turns: %v", p)
	}
	return x
}

// may is the chapter's May, of a graph as it is written.
func may(p api.Graph, a, b int) bool {
	isEdge := func(e int) bool { return 0 <= e && e < len(p.Edges) }
	return isEdge(a) && isEdge(b) && p.Edges[a].To == p.Edges[b].From && !slices.Contains(p.Bans, api.Ban{A: a, B: b})
}

// wantTurns asks that all calls tell what the chapter says of a graph as it is written.
func wantTurns(t *testing.T, x *Turns, p api.Graph) {
	t.Helper()
	var arcs []api.Arc
	for a := -2; a < len(p.Edges)+2; a++ {
		var next, prev []int
		for b := -2; b < len(p.Edges)+2; b++ {
			if x.May(a, b) != may(p, a, b) {
				t.Errorf("May(%d, %d) = %t", a, b, x.May(a, b))
			}
			if may(p, a, b) {
				next = append(next, b)
				arcs = append(arcs, api.Arc{From: a, To: b, W: p.Edges[b].W, Mid: -1})
			}
			if may(p, b, a) {
				prev = append(prev, b)
			}
		}
		if got := x.Next(a); !slices.Equal(got, next) {
			t.Errorf("Next(%d) = %v, want %v", a, got, next)
		}
		if got := x.Prev(a); !slices.Equal(got, prev) {
			t.Errorf("Prev(%d) = %v, want %v", a, got, prev)
		}
	}
	if got := x.Arcs(); !slices.Equal(got, arcs) {
		t.Errorf("Arcs() = %v, want %v", got, arcs)
	}
}

// wantNone asks that there is not one turn.
func wantNone(t *testing.T, what string, x *Turns) {
	t.Helper()
	for _, e := range []int{math.MinInt, -1, 0, 1, math.MaxInt} {
		if next, prev := x.Next(e), x.Prev(e); len(next) != 0 || len(prev) != 0 || x.May(e, e) {
			t.Errorf("%s: Next(%d) %v, Prev %v, May %t", what, e, next, prev, x.May(e, e))
		}
	}
	if arcs := x.Arcs(); len(arcs) != 0 {
		t.Errorf("%s: Arcs() = %v", what, arcs)
	}
}

func ExampleTurns_Next() {
	free, _ := graph.New(fork())
	banned, _ := graph.New(fork(api.Ban{A: 0, B: 1}))
	fmt.Println(New(free).Next(0), New(banned).Next(0))
	// Output: [1 2 3 4] [2 3 4]
}

// P7.1

func TestNewOfNil(t *testing.T) {
	if x := New(nil); x != nil {
		t.Errorf("New(nil) = %v", x)
	}
}

func TestMay(t *testing.T) {
	x := mustNew(t, fork(api.Ban{A: 0, B: 1}, api.Ban{A: 3, B: 3}))
	for _, c := range []struct {
		a, b int
		want bool
	}{
		{0, 1, false}, {0, 2, true}, {0, 3, true}, {0, 4, true},
		{1, 0, true}, {3, 3, false}, {3, 1, true}, {3, 2, true},
		{0, 0, false}, {2, 1, false}, {1, 2, false}, {2, 4, false},
	} {
		if got := x.May(c.a, c.b); got != c.want {
			t.Errorf("May(%d, %d) = %t", c.a, c.b, got)
		}
	}
}

func TestNextAndPrev(t *testing.T) {
	x := mustNew(t, fork(api.Ban{A: 0, B: 1}, api.Ban{A: 0, B: 4}, api.Ban{A: 3, B: 3}))
	for e, want := range []string{"[2 3] [1]", "[0] [3]", "[] [0 3]", "[1 2 4] [0]", "[] [3]"} {
		if got := fmt.Sprint(x.Next(e), x.Prev(e)); got != want {
			t.Errorf("of %d: %s, want %s", e, got, want)
		}
	}
}

func TestNoEdge(t *testing.T) {
	x := mustNew(t, fork())
	for _, e := range wrongEdges {
		if next, prev := x.Next(e), x.Prev(e); len(next) != 0 || len(prev) != 0 {
			t.Errorf("Next(%d) = %v, Prev %v", e, next, prev)
		}
		for _, f := range []int{e, 0, 1, 3} {
			if x.May(e, f) || x.May(f, e) {
				t.Errorf("there is a turn between %d and %d", e, f)
			}
		}
	}
}

func TestArcs(t *testing.T) {
	x := mustNew(t, fork(api.Ban{A: 0, B: 1}, api.Ban{A: 3, B: 3}))
	want := []api.Arc{
		{From: 0, To: 2, W: 5, Mid: -1}, {From: 0, To: 3, W: 7, Mid: -1}, {From: 0, To: 4, W: 11, Mid: -1},
		{From: 1, To: 0, W: 2, Mid: -1},
		{From: 3, To: 1, W: 3, Mid: -1}, {From: 3, To: 2, W: 5, Mid: -1}, {From: 3, To: 4, W: 11, Mid: -1},
	}
	if got := x.Arcs(); !slices.Equal(got, want) {
		t.Errorf("Arcs() = %v, want %v", got, want)
	}
}

func TestArcsOfLoops(t *testing.T) {
	x := mustNew(t, api.Graph{Nodes: make([]api.Node, 1), Edges: []api.Edge{{W: 7}, {W: 8}}, Bans: []api.Ban{{A: 1, B: 1}}})
	want := []api.Arc{{From: 0, To: 0, W: 7, Mid: -1}, {From: 0, To: 1, W: 8, Mid: -1}, {From: 1, To: 0, W: 7, Mid: -1}}
	if got := x.Arcs(); !slices.Equal(got, want) {
		t.Errorf("Arcs() = %v, want %v", got, want)
	}
}

func TestNothingToTurnInto(t *testing.T) {
	wantNone(t, "no edges", mustNew(t, api.Graph{Nodes: make([]api.Node, 2)}))
	wantNone(t, "one edge", mustNew(t, api.Graph{Nodes: make([]api.Node, 2), Edges: []api.Edge{{From: 0, To: 1, W: 1}}}))
	wantNone(t, "a loop, banned", mustNew(t, api.Graph{Nodes: make([]api.Node, 1), Edges: []api.Edge{{W: 1}}, Bans: []api.Ban{{}}}))
}

func TestNilAndZeroTurns(t *testing.T) {
	wantNone(t, "nil", nil)
	wantNone(t, "zero", &Turns{})
	wantNone(t, "of a zero graph", New(&graph.Graph{}))
}

func TestGraphsOwnCalls(t *testing.T) {
	p := fork(api.Ban{A: 0, B: 1})
	g, _ := graph.New(p)
	x := New(g)
	edge, isEdge := x.Edge(2)
	node, isNode := x.Node(2)
	_, isNone := x.Edge(5)
	got := fmt.Sprint(x.Nodes(), x.Edges(), node, isNode, edge, isEdge, isNone, x.Out(1), x.In(1), x.Banned(0, 1), x.Banned(0, 2), x.Plain())
	want := fmt.Sprint(3, 5, api.Node{}, true, p.Edges[2], true, false, []int{1, 2, 3, 4}, []int{0, 3}, true, false, p)
	if got != want || x.Graph != g {
		t.Errorf("told %s, want %s", got, want)
	}
}

func TestAnyTurns(t *testing.T) {
	r := rand.New(rand.NewSource(7))
	for range 200 {
		p := sample.Graph(r.Intn, 1+r.Intn(8), r.Intn(30))
		wantTurns(t, mustNew(t, p), p)
	}
}

func TestMostEdges(t *testing.T) {
	p := api.Graph{Nodes: make([]api.Node, 1)}
	for range api.MaxEdges {
		p.Edges = append(p.Edges, api.Edge{W: 1})
	}
	for i := range api.MaxBans {
		p.Bans = append(p.Bans, api.Ban{A: i / 2, B: i % 2})
	}
	x := mustNew(t, p)
	if next, prev, arcs := len(x.Next(511)), len(x.Prev(511)), len(x.Arcs()); next != 510 || prev != 512 || arcs != 512*510 {
		t.Errorf("Next of %d, Prev of %d, %d arcs", next, prev, arcs)
	}
}

// P7.2

func TestNextAndPrevAgree(t *testing.T) {
	r := rand.New(rand.NewSource(72))
	for range 200 {
		x := mustNew(t, sample.Graph(r.Intn, 1+r.Intn(8), r.Intn(30)))
		for a := range x.Edges() {
			for b := range x.Edges() {
				if slices.Contains(x.Next(a), b) != slices.Contains(x.Prev(b), a) {
					t.Fatalf("of %d and %d: Next %v, Prev %v", a, b, x.Next(a), x.Prev(b))
				}
			}
		}
	}
}

func TestAnswersAreNewMemory(t *testing.T) {
	p := fork(api.Ban{A: 0, B: 1}, api.Ban{A: 3, B: 3})
	g, _ := graph.New(p)
	x, other := New(g), New(g)
	next, prev, arcs := x.Next(0), x.Prev(1), x.Arcs()
	for e := range 5 {
		sample.Overwrite(x.Next(e), 99)
		sample.Overwrite(x.Prev(e), 99)
	}
	sample.Overwrite(x.Arcs(), api.Arc{From: 99})
	if !slices.Equal(next, []int{2, 3, 4}) || !slices.Equal(prev, []int{3}) || len(arcs) != 7 || arcs[0] != (api.Arc{From: 0, To: 2, W: 5, Mid: -1}) {
		t.Errorf("an answer was changed: %v, %v, %v", next, prev, arcs)
	}
	wantTurns(t, x, p)
	wantTurns(t, other, p)
	wantTurns(t, New(g), p)
}
