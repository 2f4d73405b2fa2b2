package graph

import (
	"fmt"
	"math"
	"math/rand"
	"reflect"
	"slices"
	"testing"

	"milepost/api"
	"milepost/sample"
)

// wrongNumbers are no places of three things.
var wrongNumbers = []int{math.MinInt, -1, 3, 4, math.MaxInt}

// three is three nodes, three edges around, a loop, and three bans.
func three() api.Graph {
	return api.Graph{
		Nodes: []api.Node{{X: 0, Y: 4095}, {X: 4095, Y: 0}, {X: 7, Y: 8}},
		Edges: []api.Edge{{From: 0, To: 1, W: 1}, {From: 1, To: 2, W: 65535}, {From: 2, To: 0, W: 5}, {From: 1, To: 1, W: 6}},
		Bans:  []api.Ban{{A: 0, B: 1}, {A: 0, B: 3}, {A: 3, B: 3}},
	}
}

// mustNew is a graph that may be.
func mustNew(t *testing.T, g api.Graph) *Graph {
	t.Helper()
	x, e := New(g)
	if x == nil || e != api.OK {
		t.Fatalf("New(%v) = %v, %d", g, x, e)
	}
	return x
}

// wantRefused asks that a graph may not be.
func wantRefused(t *testing.T, what string, g api.Graph) {
	t.Helper()
	if x, e := New(g); x != nil || e != api.ErrArg {
		t.Errorf("%s: New = %v, %d; want nil, %d", what, x, e, api.ErrArg)
	}
}

func ExampleNew() {
	g, e := New(api.Graph{Nodes: []api.Node{{X: 3, Y: 4}}})
	fmt.Println(g.Nodes(), g.Edges(), e)
	// Output: 1 0 0
}

// P5.1

func TestNewTakesWhatMayBe(t *testing.T) {
	mustNew(t, three())
	mustNew(t, sample.Loops(1, 0, 0))
	mustNew(t, sample.Loops(1, 1, 1))
	mustNew(t, sample.Loops(256, 512, 1024))
}

func TestNewRefusesTooFewOrTooMany(t *testing.T) {
	wantRefused(t, "nothing", api.Graph{})
	wantRefused(t, "no nodes", api.Graph{Nodes: []api.Node{}})
	wantRefused(t, "edges without nodes", sample.Loops(0, 1, 0))
	wantRefused(t, "257 nodes", sample.Loops(257, 1, 0))
	wantRefused(t, "513 edges", sample.Loops(1, 513, 0))
	wantRefused(t, "1025 bans", sample.Loops(1, 512, 1025))
}

func TestNewRefusesWrongNodes(t *testing.T) {
	for at := range 3 {
		for _, n := range []int{math.MinInt, -1, 4096, math.MaxInt} {
			g := three()
			g.Nodes[at].X = n
			wantRefused(t, fmt.Sprint("node ", at, ", X ", n), g)
			g = three()
			g.Nodes[at].Y = n
			wantRefused(t, fmt.Sprint("node ", at, ", Y ", n), g)
		}
	}
}

func TestNewRefusesWrongEdges(t *testing.T) {
	for at := range 4 {
		for _, n := range wrongNumbers {
			g := three()
			g.Bans = nil
			g.Edges[at].From = n
			wantRefused(t, fmt.Sprint("edge ", at, ", From ", n), g)
			g = three()
			g.Bans = nil
			g.Edges[at].To = n
			wantRefused(t, fmt.Sprint("edge ", at, ", To ", n), g)
		}
		for _, w := range []int{math.MinInt, -1, 0, 65536, math.MaxInt} {
			g := three()
			g.Edges[at].W = w
			wantRefused(t, fmt.Sprint("edge ", at, ", W ", w), g)
		}
	}
}

func TestNewRefusesWrongBans(t *testing.T) {
	for what, bans := range map[string][]api.Ban{
		"A below 0":             {{A: -1, B: 1}},
		"A behind the end":      {{A: 4, B: 1}},
		"A far behind":          {{A: math.MaxInt, B: 1}},
		"B below 0":             {{A: 0, B: math.MinInt}},
		"B behind the end":      {{A: 0, B: 4}},
		"the last one wrong":    {{A: 0, B: 1}, {A: 1, B: 4}},
		"no turn, out of loop":  {{A: 3, B: 2}},
		"no turn, backwards":    {{A: 1, B: 0}},
		"no turn into itself":   {{A: 0, B: 0}},
		"twice":                 {{A: 0, B: 1}, {A: 0, B: 1}},
		"twice, apart":          {{A: 0, B: 1}, {A: 0, B: 3}, {A: 0, B: 1}},
		"falling by A":          {{A: 2, B: 0}, {A: 1, B: 2}},
		"falling by B":          {{A: 0, B: 3}, {A: 0, B: 1}},
		"falling by A, B rises": {{A: 3, B: 1}, {A: 0, B: 3}},
	} {
		g := three()
		g.Bans = bans
		wantRefused(t, what, g)
	}
}

func TestNewTakesBansThatRise(t *testing.T) {
	g := three()
	g.Bans = []api.Ban{{A: 0, B: 1}, {A: 0, B: 3}, {A: 1, B: 2}, {A: 2, B: 0}, {A: 3, B: 1}, {A: 3, B: 3}}
	mustNew(t, g)
}

// P5.2

func TestNodesAndEdges(t *testing.T) {
	p := three()
	g := mustNew(t, p)
	if g.Nodes() != 3 || g.Edges() != 4 {
		t.Errorf("%d nodes, %d edges", g.Nodes(), g.Edges())
	}
	for i, want := range p.Nodes {
		if got, ok := g.Node(i); got != want || !ok {
			t.Errorf("Node(%d) = %v, %t", i, got, ok)
		}
	}
	for i, want := range p.Edges {
		if got, ok := g.Edge(i); got != want || !ok {
			t.Errorf("Edge(%d) = %v, %t", i, got, ok)
		}
	}
	for _, i := range wrongNumbers {
		if got, ok := g.Node(i); got != (api.Node{}) || ok {
			t.Errorf("Node(%d) = %v, %t", i, got, ok)
		}
		if got, ok := g.Edge(i); i != 3 && (got != (api.Edge{}) || ok) {
			t.Errorf("Edge(%d) = %v, %t", i, got, ok)
		}
	}
}

func TestOutAndIn(t *testing.T) {
	g := mustNew(t, three())
	for i, want := range [][2][]int{{{0}, {2}}, {{1, 3}, {0, 3}}, {{2}, {1}}} {
		if got := g.Out(i); !slices.Equal(got, want[0]) {
			t.Errorf("Out(%d) = %v, want %v", i, got, want[0])
		}
		if got := g.In(i); !slices.Equal(got, want[1]) {
			t.Errorf("In(%d) = %v, want %v", i, got, want[1])
		}
	}
	for _, i := range wrongNumbers {
		if out, in := g.Out(i), g.In(i); len(out) != 0 || len(in) != 0 {
			t.Errorf("of no node %d: Out %v, In %v", i, out, in)
		}
	}
}

func TestOutAndInOfALonelyNode(t *testing.T) {
	g := mustNew(t, api.Graph{Nodes: make([]api.Node, 3), Edges: []api.Edge{{From: 0, To: 2, W: 1}}})
	if out, in := g.Out(1), g.In(1); len(out) != 0 || len(in) != 0 {
		t.Errorf("Out %v, In %v", out, in)
	}
	if out, in := g.Out(2), g.In(0); len(out) != 0 || len(in) != 0 {
		t.Errorf("Out(2) %v, In(0) %v", out, in)
	}
}

func TestBanned(t *testing.T) {
	p := three()
	g := mustNew(t, p)
	for a := -1; a <= 5; a++ {
		for b := -1; b <= 5; b++ {
			if got, want := g.Banned(a, b), slices.Contains(p.Bans, api.Ban{A: a, B: b}); got != want {
				t.Errorf("Banned(%d, %d) = %t", a, b, got)
			}
		}
	}
	if g.Banned(math.MinInt, math.MaxInt) || g.Banned(math.MaxInt, math.MinInt) {
		t.Error("a turn between no edges is banned")
	}
}

func TestPlain(t *testing.T) {
	for _, p := range []api.Graph{three(), sample.Loops(256, 512, 1024)} {
		if got := mustNew(t, p).Plain(); !reflect.DeepEqual(got, p) {
			t.Errorf("Plain() = %v, want %v", got, p)
		}
	}
	p := mustNew(t, sample.Loops(1, 0, 0)).Plain()
	if len(p.Nodes) != 1 || len(p.Edges) != 0 || len(p.Bans) != 0 {
		t.Errorf("Plain() = %v", p)
	}
}

func TestNilAndZeroGraph(t *testing.T) {
	for what, g := range map[string]*Graph{"nil": nil, "zero": {}} {
		if g.Nodes() != 0 || g.Edges() != 0 {
			t.Errorf("%s: %d nodes, %d edges", what, g.Nodes(), g.Edges())
		}
		for _, i := range []int{math.MinInt, -1, 0, 1, math.MaxInt} {
			n, isNode := g.Node(i)
			e, isEdge := g.Edge(i)
			if n != (api.Node{}) || isNode || e != (api.Edge{}) || isEdge {
				t.Errorf("%s: Node(%d) %v, %t, Edge %v, %t", what, i, n, isNode, e, isEdge)
			}
			if out, in := g.Out(i), g.In(i); len(out) != 0 || len(in) != 0 || g.Banned(i, i) {
				t.Errorf("%s: Out(%d) %v, In %v, Banned %t", what, i, out, in, g.Banned(i, i))
			}
		}
		if p := g.Plain(); len(p.Nodes) != 0 || len(p.Edges) != 0 || len(p.Bans) != 0 {
			t.Errorf("%s: Plain() = %v", what, p)
		}
	}
}

// P5.3

func TestEachEdgeIsInOneOutAndInOneIn(t *testing.T) {
	r := rand.New(rand.NewSource(1))
	for range 300 {
		p := sample.Graph(r.Intn, 1+r.Intn(9), r.Intn(30))
		g := mustNew(t, p)
		out, in := make([]int, len(p.Edges)), make([]int, len(p.Edges))
		for n := range p.Nodes {
			for _, e := range g.Out(n) {
				out[e]++
				if p.Edges[e].From != n {
					t.Fatalf("edge %d, %v, is in Out(%d)", e, p.Edges[e], n)
				}
			}
			for _, e := range g.In(n) {
				in[e]++
				if p.Edges[e].To != n {
					t.Fatalf("edge %d, %v, is in In(%d)", e, p.Edges[e], n)
				}
			}
			if !slices.IsSorted(g.Out(n)) || !slices.IsSorted(g.In(n)) {
				t.Fatalf("Out(%d) %v, In %v do not rise", n, g.Out(n), g.In(n))
			}
		}
		for e := range p.Edges {
			if out[e] != 1 || in[e] != 1 {
				t.Fatalf("edge %d is in %d Outs, %d Ins", e, out[e], in[e])
			}
		}
		for _, b := range p.Bans {
			if !g.Banned(b.A, b.B) {
				t.Fatalf("%v is not banned", b)
			}
		}
		if !reflect.DeepEqual(g.Plain(), p) {
			t.Fatalf("Plain() = %v, want %v", g.Plain(), p)
		}
	}
}

// wantThree asks that a graph tells what three is, by all its calls.
func wantThree(t *testing.T, g *Graph) {
	t.Helper()
	if got := g.Plain(); !reflect.DeepEqual(got, three()) {
		t.Errorf("Plain() = %v", got)
	}
	n, _ := g.Node(2)
	e, _ := g.Edge(3)
	got := fmt.Sprint(n, e, g.Out(0), g.Out(1), g.Out(2), g.In(0), g.In(1), g.In(2), g.Banned(0, 1), g.Banned(99, 99))
	if want := "{7 8} {1 1 6} [0] [1 3] [2] [2] [0 3] [1] true false"; got != want {
		t.Errorf("told %s, want %s", got, want)
	}
}

func TestArgumentIsNeitherChangedNorKept(t *testing.T) {
	spare := three()
	p := api.Graph{Nodes: spare.Nodes[:1], Edges: spare.Edges[:0], Bans: spare.Bans[:0]}
	mustNew(t, p)
	wantRefused(t, "edges without their nodes", api.Graph{Nodes: p.Nodes, Edges: spare.Edges})
	if !reflect.DeepEqual(spare, three()) {
		t.Errorf("the argument was changed: %v", spare)
	}
	g := mustNew(t, spare)
	if !reflect.DeepEqual(spare, three()) {
		t.Errorf("the argument was changed: %v", spare)
	}
	sample.OverwriteGraph(spare)
	wantThree(t, g)
}

func TestAnswersAreNewMemory(t *testing.T) {
	g := mustNew(t, three())
	plain, other := g.Plain(), g.Plain()
	out, in := g.Out(1), g.In(1)
	for n := range 3 {
		sample.Overwrite(g.Out(n), 99)
		sample.Overwrite(g.In(n), 99)
	}
	sample.OverwriteGraph(plain)
	if !reflect.DeepEqual(other, three()) || !slices.Equal(out, []int{1, 3}) || !slices.Equal(in, []int{0, 3}) {
		t.Errorf("an answer was changed: %v, %v, %v", other, out, in)
	}
	wantThree(t, g)
}

func TestGraphsHaveNothingInCommon(t *testing.T) {
	p := three()
	g := mustNew(t, p)
	h := mustNew(t, sample.Loops(1, 1, 1))
	sample.OverwriteGraph(h.Plain())
	wantRefused(t, "a wrong one", api.Graph{})
	wantThree(t, g)
	if h.Edges() != 1 || !h.Banned(0, 0) || h.Banned(0, 1) {
		t.Error("a graph hangs on another one")
	}
}
