package engine

import (
	"fmt"
	"math"
	"math/rand"
	"reflect"
	"slices"
	"testing"

	"milepost/api"
	"milepost/graph"
	"milepost/least"
	"milepost/levels"
	"milepost/net"
	"milepost/sample"
	"milepost/turns"
	"milepost/walk"
)

// wrong are neither edges nor nodes of the square.
var wrong = []int{math.MinInt, -1, 9, 10, math.MaxInt}

// square is four nodes round, both ways: edges 0 to 3 the one way round, 4 to 7 the other one; 8 goes across, as far as 0 and 1; node 4 is alone.
func square(bans ...api.Ban) api.Graph {
	return api.Graph{
		Nodes: []api.Node{{X: 0, Y: 0}, {X: 10, Y: 0}, {X: 10, Y: 10}, {X: 0, Y: 10}, {X: 5, Y: 20}},
		Edges: []api.Edge{{From: 0, To: 1, W: 2}, {From: 1, To: 2, W: 3}, {From: 2, To: 3, W: 4}, {From: 3, To: 0, W: 5}, {From: 1, To: 0, W: 2}, {From: 2, To: 1, W: 3}, {From: 3, To: 2, W: 4}, {From: 0, To: 3, W: 5}, {From: 0, To: 2, W: 5}},
		Bans:  bans,
	}
}

// mustNew is the Engine of a graph that may be.
func mustNew(t *testing.T, g api.Graph) *Engine {
	t.Helper()
	x, e := New(g)
	if x == nil || e != api.OK {
		t.Fatalf("New(%v) = %v, %d", g, x, e)
	}
	return x
}

// turnsOf is the turns of a graph that may be.
func turnsOf(p api.Graph) *turns.Turns {
	g, _ := graph.New(p)
	return turns.New(g)
}

// shut is a list of nine edges in which these are closed.
func shut(edges ...int) []bool {
	closed := make([]bool, 9)
	for _, e := range edges {
		closed[e] = true
	}
	return closed
}

// wantWay asks for a way.
func wantWay(t *testing.T, x *Engine, at, node int, closed []bool, want Answer) {
	t.Helper()
	got := x.Way(at, node, closed)
	if !slices.Equal(got.Edges, want.Edges) || got.Weight != want.Weight || got.Found != want.Found || got.Far != want.Far {
		t.Errorf("Way(%d, %d, %v) = %+v, want %+v", at, node, closed, got, want)
	}
}

// wantLeast asks for the way that least tells, and whether it is that without any closed.
func wantLeast(t *testing.T, x *Engine, y *turns.Turns, at, node int, closed []bool) {
	t.Helper()
	way, ok := least.Way(y, at, node, closed)
	free, _ := least.Way(y, at, node, nil)
	weight, _ := walk.Weight(y, way...)
	wantWay(t, x, at, node, closed, Answer{Edges: way, Weight: weight, Found: ok, Far: ok && !slices.Equal(way, free)})
}

// near is that with nothing closed; far is another one.
func near(weight int, edges ...int) Answer { return Answer{Edges: edges, Weight: weight, Found: true} }
func far(weight int, edges ...int) Answer {
	return Answer{Edges: edges, Weight: weight, Found: true, Far: true}
}

func ExampleEngine_Way() {
	x, _ := New(api.Graph{
		Nodes: make([]api.Node, 2),
		Edges: []api.Edge{{From: 0, To: 1, W: 5}, {From: 1, To: 0, W: 7}, {From: 0, To: 1, W: 6}},
	})
	fmt.Printf("%+v\n", x.Way(1, 1, nil))
	fmt.Printf("%+v\n", x.Way(1, 1, []bool{true}))
	// Output:
	// {Edges:[0] Weight:5 Found:true Far:false}
	// {Edges:[2] Weight:6 Found:true Far:true}
}

// P20.1

func TestNewRefuses(t *testing.T) {
	for what, g := range map[string]api.Graph{
		"nothing":    {},
		"no node":    {Nodes: make([]api.Node, 1), Edges: []api.Edge{{From: 0, To: 1, W: 1}}},
		"no weight":  {Nodes: make([]api.Node, 1), Edges: []api.Edge{{}}},
		"no turn":    square(api.Ban{A: 0, B: 2}),
		"too many":   sample.Loops(257, 1, 0),
		"513 edges":  sample.Loops(1, 513, 0),
		"bans twice": square(api.Ban{A: 0, B: 1}, api.Ban{A: 0, B: 1}),
	} {
		if x, e := New(g); x != nil || e != api.ErrArg {
			t.Errorf("%s: %v, %d", what, x, e)
		}
	}
}

func TestTurnsOwnCalls(t *testing.T) {
	p := square(api.Ban{A: 0, B: 1})
	x := mustNew(t, p)
	if got := fmt.Sprint(x.Nodes(), x.Edges(), x.Next(0), x.May(0, 1), x.In(1), x.Banned(0, 1)); got != "5 9 [4] false [0 5] true" || !reflect.DeepEqual(x.Plain(), p) {
		t.Errorf("told %s, of %v", got, x.Plain())
	}
}

func TestLevels(t *testing.T) {
	p := square(api.Ban{A: 0, B: 1})
	n, _ := net.New(9, turnsOf(p).Arcs()...)
	got, want := mustNew(t, p).Levels(), levels.Build(n)
	if got.Len() != 9 || !slices.Equal(got.All(), want.All()) {
		t.Errorf("of %d: %v, want %v", got.Len(), got.All(), want.All())
	}
	for v := range 9 {
		if got.Rank(v) != want.Rank(v) {
			t.Errorf("Rank(%d) = %d, want %d", v, got.Rank(v), want.Rank(v))
		}
	}
}

func TestArcsFromAnEdgeToItself(t *testing.T) {
	x := mustNew(t, api.Graph{Nodes: make([]api.Node, 1), Edges: []api.Edge{{W: 7}, {W: 8}}})
	if got := fmt.Sprint(x.Levels().All(), x.Levels().Cuts()); got != "[{0 1 8 -1} {1 0 7 -1}] 0" {
		t.Errorf("told %s", got)
	}
	wantWay(t, x, 0, 0, nil, near(0))
	wantWay(t, x, 1, 0, []bool{true, true}, near(0))
}

func TestNoEdges(t *testing.T) {
	x := mustNew(t, api.Graph{Nodes: make([]api.Node, 1)})
	if l := x.Levels(); l == nil || l.Len() != 0 {
		t.Errorf("Levels() = %v", l)
	}
	wantWay(t, x, 0, 0, nil, Answer{})
}

// P20.2

func TestWay(t *testing.T) {
	x := mustNew(t, square())
	wantWay(t, x, 3, 2, nil, near(5, 0, 1))
	wantWay(t, x, 3, 2, shut(0), far(5, 8))
	wantWay(t, x, 3, 2, shut(1), far(5, 8))
	wantWay(t, x, 3, 2, shut(8), near(5, 0, 1))
	wantWay(t, x, 3, 2, shut(2, 4, 5, 6, 7, 8), near(5, 0, 1))
	wantWay(t, x, 3, 2, shut(0, 8), far(9, 7, 6))
	wantWay(t, x, 3, 2, shut(0, 8, 7), Answer{})
	wantWay(t, mustNew(t, square(api.Ban{A: 0, B: 1})), 3, 2, nil, near(5, 8))
}

func TestWayOfNoEdges(t *testing.T) {
	x := mustNew(t, square())
	for e, node := range []int{1, 2, 3, 0, 0, 1, 2, 3, 2} {
		wantWay(t, x, e, node, nil, near(0))
		wantWay(t, x, e, node, shut(0, 1, 2, 3, 4, 5, 6, 7, 8), near(0))
	}
}

func TestFromAClosedEdge(t *testing.T) {
	x := mustNew(t, square())
	wantWay(t, x, 3, 2, shut(3), near(5, 0, 1))
	wantWay(t, x, 3, 2, shut(3, 1), far(5, 8))
}

func TestClosedBehindTheEnds(t *testing.T) {
	x := mustNew(t, square())
	wantWay(t, x, 3, 2, []bool{}, near(5, 0, 1))
	wantWay(t, x, 3, 2, []bool{true}, far(5, 8))
	wantWay(t, x, 3, 2, append(shut(0, 8), true, true, true), far(9, 7, 6))
}

func TestNotFound(t *testing.T) {
	x := mustNew(t, square())
	wantWay(t, x, 3, 4, nil, Answer{})
	wantWay(t, x, 3, 4, shut(0), Answer{})
	for _, n := range wrong {
		wantWay(t, x, n, 2, nil, Answer{})
		wantWay(t, x, 3, n, nil, Answer{})
		wantWay(t, x, n, n, shut(0), Answer{})
	}
}

func TestNilAndZeroEngine(t *testing.T) {
	for _, x := range []*Engine{nil, {}, {Turns: &turns.Turns{}}} {
		if l := x.Levels(); l != nil {
			t.Errorf("Levels() = %v", l)
		}
		for _, n := range append(wrong, 0) {
			wantWay(t, x, n, 0, nil, Answer{})
			wantWay(t, x, 0, n, []bool{true}, Answer{})
		}
	}
}

func TestAsLeastTells(t *testing.T) {
	r := rand.New(rand.NewSource(20))
	for range 150 {
		p := sample.Ties(r.Intn, 1+r.Intn(12), 1+r.Intn(40))
		x, y := mustNew(t, p), turnsOf(p)
		for range 20 {
			wantLeast(t, x, y, r.Intn(len(p.Edges)), r.Intn(len(p.Nodes)), sample.Mask(r.Intn, r.Intn(len(p.Edges)+2), 6))
		}
		if t.Failed() {
			t.Fatalf("of %v", p)
		}
	}
}

func TestMostNodesAndEdges(t *testing.T) {
	r := rand.New(rand.NewSource(200))
	p := sample.Ties(r.Intn, api.MaxNodes, api.MaxEdges)
	x, y := mustNew(t, p), turnsOf(p)
	for range 200 {
		wantLeast(t, x, y, r.Intn(len(p.Edges)), r.Intn(len(p.Nodes)), sample.Mask(r.Intn, len(p.Edges), 30))
	}
}

// P20.3

func TestNothingHangsOnWhatWasAsked(t *testing.T) {
	r := rand.New(rand.NewSource(203))
	p := sample.Ties(r.Intn, 6, 20)
	x := mustNew(t, p)
	all := x.Levels().All()
	for range 200 {
		at, node, closed := r.Intn(20), r.Intn(6), sample.Mask(r.Intn, 20, 3)
		wantWay(t, x, at, node, closed, mustNew(t, p).Way(at, node, closed))
	}
	if !slices.Equal(x.Levels().All(), all) {
		t.Error("the levels were changed")
	}
}

func TestArgumentsAndAnswers(t *testing.T) {
	p := square(api.Ban{A: 0, B: 1}, api.Ban{A: 1, B: 5})
	x := mustNew(t, p)
	if !reflect.DeepEqual(p, square(api.Ban{A: 0, B: 1}, api.Ban{A: 1, B: 5})) {
		t.Errorf("the graph was changed: %v", p)
	}
	sample.OverwriteGraph(p)
	room := shut(8)
	one, two := x.Way(3, 1, room[:4]), x.Way(2, 1, nil)
	if !slices.Equal(room, shut(8)) {
		t.Errorf("the list, or its room, was changed: %v", room)
	}
	sample.Overwrite(one.Edges, 99)
	if !slices.Equal(two.Edges, []int{3, 0}) {
		t.Errorf("an answer was changed: %v", two)
	}
	wantWay(t, x, 3, 1, nil, near(2, 0))
}
