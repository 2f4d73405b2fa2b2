package detour

import (
	"fmt"
	"math"
	"math/rand"
	"slices"
	"testing"

	"milepost/api"
	"milepost/dist"
	"milepost/graph"
	"milepost/sample"
	"milepost/turns"
)

// wrong are neither edges nor nodes of a graph of up to nine.
var wrong = []int{math.MinInt, -1, 9, 10, math.MaxInt}

// turnsOf is the turns of a graph that may be.
func turnsOf(p api.Graph) *turns.Turns {
	g, _ := graph.New(p)
	return turns.New(g)
}

// square is four nodes round, both ways: edges 0 to 3 the one way round, 4 to 7 the other one; 8 goes across, as far as 0 and 1; node 4 is alone.
func square(bans ...api.Ban) *turns.Turns {
	return turnsOf(api.Graph{
		Nodes: make([]api.Node, 5),
		Edges: []api.Edge{{From: 0, To: 1, W: 2}, {From: 1, To: 2, W: 3}, {From: 2, To: 3, W: 4}, {From: 3, To: 0, W: 5}, {From: 1, To: 0, W: 2}, {From: 2, To: 1, W: 3}, {From: 3, To: 2, W: 4}, {From: 0, To: 3, W: 5}, {From: 0, To: 2, W: 5}},
		Bans:  bans,
	})
}

// shut is a list of nine edges in which these are closed.
func shut(edges ...int) []bool {
	closed := make([]bool, 9)
	for _, e := range edges {
		closed[e] = true
	}
	return closed
}

// wantDist asks for a distance; -1 of none.
func wantDist(t *testing.T, x *turns.Turns, e, node int, closed []bool, want int) {
	t.Helper()
	if got, ok := Dist(x, e, node, closed); ok != (want >= 0) || got != max(want, 0) {
		t.Errorf("Dist(%d, %d, %v) = %d, %t; want %d", e, node, closed, got, ok, want)
	}
}

// wantMeets asks for an edge; -1 of none.
func wantMeets(t *testing.T, x *turns.Turns, e, node int, closed []bool, want int) {
	t.Helper()
	if got, ok := Meets(x, e, node, closed); ok != (want >= 0) || got != max(want, 0) {
		t.Errorf("Meets(%d, %d, %v) = %d, %t; want %d", e, node, closed, got, ok, want)
	}
}

// tried is the distance, and the least edge of all lightest walks, -1 and -1 if there is none: by trying all that have no edge twice, as no other one can be the lightest.
func tried(x *turns.Turns, e, node int, closed []bool) (lightest, least int) {
	lightest, least = -1, -1
	row := []int{e}
	var try func(weight int)
	try = func(weight int) {
		at := row[len(row)-1]
		if edge, _ := x.Edge(at); edge.To == node && (lightest < 0 || weight <= lightest) {
			if weight != lightest {
				lightest, least = weight, at
			}
			least = min(least, slices.Min(row))
		}
		for _, b := range x.Next(at) {
			if isClosed := b < len(closed) && closed[b]; !isClosed && !slices.Contains(row, b) {
				edge, _ := x.Edge(b)
				row = append(row, b)
				try(weight + edge.W)
				row = row[:len(row)-1]
			}
		}
	}
	try(0)
	return lightest, least
}

func ExampleMeets() {
	g, _ := graph.New(api.Graph{Nodes: make([]api.Node, 2), Edges: []api.Edge{{From: 0, To: 1, W: 5}, {From: 1, To: 0, W: 7}}})
	t := turns.New(g)
	fmt.Println(Dist(t, 1, 1, nil))
	fmt.Println(Meets(t, 1, 1, nil))
	fmt.Println(Dist(t, 1, 0, []bool{true, true}))
	// Output:
	// 5 true
	// 0 true
	// 0 true
}

// P19.1

func TestDist(t *testing.T) {
	x := square()
	wantDist(t, x, 3, 2, nil, 5)
	wantDist(t, x, 3, 2, shut(0), 5)
	wantDist(t, x, 3, 2, shut(8), 5)
	wantDist(t, x, 3, 2, shut(0, 8), 9)
	wantDist(t, x, 3, 2, shut(0, 8, 7), -1)
	wantDist(t, x, 3, 2, shut(1, 8, 6), -1)
	wantDist(t, square(api.Ban{A: 3, B: 0}, api.Ban{A: 3, B: 8}), 3, 2, nil, 9)
}

func TestWhereItEnds(t *testing.T) {
	x := square()
	for e, node := range []int{1, 2, 3, 0, 0, 1, 2, 3, 2} {
		wantDist(t, x, e, node, nil, 0)
		wantDist(t, x, e, node, shut(0, 1, 2, 3, 4, 5, 6, 7, 8), 0)
	}
}

func TestClosedEnds(t *testing.T) {
	x := square()
	// One may start on a closed edge, but not come to one, at the end neither.
	wantDist(t, x, 0, 2, shut(0), 3)
	wantDist(t, x, 0, 2, shut(1), 7)
	wantDist(t, x, 0, 2, shut(1, 8, 6, 4), -1)
	wantDist(t, x, 0, 3, shut(7, 2), -1)
	wantMeets(t, x, 0, 3, shut(7, 2), -1)
	// On the lightest walk but one from edge 1 to where edge 4 ends.
	wantDist(t, x, 1, 0, nil, 5)
	wantDist(t, x, 1, 0, shut(4), 9)
	wantDist(t, x, 1, 0, shut(1, 4), 9)
}

func TestClosedBehindTheEnds(t *testing.T) {
	x := square()
	wantDist(t, x, 3, 2, []bool{}, 5)
	wantDist(t, x, 3, 2, []bool{true}, 5)
	wantDist(t, x, 3, 2, append(shut(0, 8), true, true, true), 9)
	wantMeets(t, x, 3, 2, []bool{true}, 3)
	wantMeets(t, x, 3, 2, append(shut(0, 8), true, true, true), 3)
}

func TestNoEdgeAndNoNode(t *testing.T) {
	x := square()
	wantDist(t, x, 0, 4, nil, -1)
	wantMeets(t, x, 0, 4, nil, -1)
	for _, n := range wrong {
		wantDist(t, x, n, 2, nil, -1)
		wantMeets(t, x, n, 2, nil, -1)
		wantDist(t, x, 3, n, nil, -1)
		wantMeets(t, x, 3, n, nil, -1)
		wantDist(t, x, n, n, shut(0), -1)
		wantMeets(t, x, n, n, shut(0), -1)
	}
	for _, none := range []*turns.Turns{nil, {}, turnsOf(api.Graph{Nodes: make([]api.Node, 1)})} {
		for _, n := range append(wrong, 0) {
			wantDist(t, none, n, 0, nil, -1)
			wantDist(t, none, 0, n, nil, -1)
			wantMeets(t, none, n, 0, nil, -1)
			wantMeets(t, none, 0, n, nil, -1)
		}
	}
}

func TestMeets(t *testing.T) {
	x := square()
	// Over 0 and 1, and over 8: both are as light.
	wantMeets(t, x, 3, 2, nil, 0)
	wantMeets(t, x, 3, 2, shut(0), 3)
	wantMeets(t, x, 3, 2, shut(8), 0)
	wantMeets(t, x, 7, 0, nil, 3)
	wantMeets(t, x, 4, 2, nil, 0)
	wantMeets(t, x, 4, 2, shut(1), 4)
	wantMeets(t, x, 8, 3, nil, 2)
	// The edge itself counts, closed or not.
	wantMeets(t, x, 1, 2, nil, 1)
	wantMeets(t, x, 1, 2, shut(1), 1)
	wantMeets(t, x, 0, 2, shut(0, 1), 0)
}

func TestAsAllWalks(t *testing.T) {
	r := rand.New(rand.NewSource(19))
	for range 300 {
		p := sample.Ties(r.Intn, 1+r.Intn(5), 1+r.Intn(9))
		x := turnsOf(p)
		for range 20 {
			e, node, closed := r.Intn(len(p.Edges)), r.Intn(len(p.Nodes)), sample.Mask(r.Intn, r.Intn(len(p.Edges)+1), 4)
			far, least := tried(x, e, node, closed)
			wantDist(t, x, e, node, closed, far)
			wantMeets(t, x, e, node, closed, least)
		}
		if t.Failed() {
			t.Fatalf("of %v", p)
		}
	}
}

func TestAsBetween(t *testing.T) {
	r := rand.New(rand.NewSource(190))
	for _, p := range []api.Graph{sample.Graph(r.Intn, 256, 512), sample.Graph(r.Intn, 100, 400), sample.Ties(r.Intn, 200, 512), sample.Ties(r.Intn, 10, 100)} {
		x := turnsOf(p)
		for range 200 {
			e, node, closed := r.Intn(len(p.Edges)), r.Intn(len(p.Nodes)), sample.Mask(r.Intn, len(p.Edges), 8)
			want, is := dist.Between(x, e, node, closed)
			if got, ok := Dist(x, e, node, closed); got != want || ok != is {
				t.Fatalf("Dist(%d, %d) = %d, %t; want %d, %t", e, node, got, ok, want, is)
			}
		}
	}
}

// P19.2

func TestBothParts(t *testing.T) {
	r := rand.New(rand.NewSource(192))
	for range 100 {
		p := sample.Ties(r.Intn, 2+r.Intn(20), 1+r.Intn(60))
		x := turnsOf(p)
		e, node, closed := r.Intn(len(p.Edges)), r.Intn(len(p.Nodes)), sample.Mask(r.Intn, len(p.Edges), 8)
		far, ok := Dist(x, e, node, closed)
		f, is := Meets(x, e, node, closed)
		if ok != is {
			t.Fatalf("there is a distance: %t; there is an edge: %t", ok, is)
		}
		if !is {
			continue
		}
		left, _ := dist.Between(x, f, node, closed)
		if gone := dist.From(x, e, closed)[f]; gone < 0 || gone+left != far {
			t.Fatalf("Meets(%d, %d) = %d: %d and %d, want %d", e, node, f, gone, left, far)
		}
	}
}

func TestClosedIsNotChanged(t *testing.T) {
	x := square()
	room := shut(0, 8)
	Dist(x, 3, 2, room[:5])
	Meets(x, 3, 2, room[:5])
	if !slices.Equal(room, shut(0, 8)) {
		t.Errorf("the list, or its room, was changed: %v", room)
	}
}
