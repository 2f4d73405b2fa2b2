package guide

import (
	"fmt"
	"math"
	"math/rand"
	"slices"
	"testing"

	"milepost/api"
	"milepost/bend"
	"milepost/graph"
	"milepost/sample"
	"milepost/turns"
	"milepost/walk"
)

// wrong are no edges of the road.
var wrong = []int{math.MinInt, -1, 7, 8, math.MaxInt}

// turnsOf is the turns of a graph that may be.
func turnsOf(p api.Graph) *turns.Turns {
	g, _ := graph.New(p)
	return turns.New(g)
}

// road goes by edges 0, 1, 2 to the east, and at the end of 2 on by 3 to the north, or by 5 to the south; 3 goes on into 4, to the east, where the road ends; 6 comes from the end of 4 back to where 0 ends.
func road(bans ...api.Ban) *turns.Turns {
	return turnsOf(api.Graph{
		Nodes: []api.Node{{X: 0, Y: 10}, {X: 10, Y: 10}, {X: 20, Y: 10}, {X: 30, Y: 10}, {X: 30, Y: 20}, {X: 40, Y: 20}, {X: 30, Y: 0}},
		Edges: []api.Edge{{From: 0, To: 1, W: 1}, {From: 1, To: 2, W: 2}, {From: 2, To: 3, W: 4}, {From: 3, To: 4, W: 8}, {From: 4, To: 5, W: 16}, {From: 3, To: 6, W: 32}, {From: 5, To: 1, W: 64}},
		Bans:  bans,
	})
}

// hint is one of a turn.
func hint(class, edge, far, left int) api.Hint {
	return api.Hint{Class: class, Edge: edge, Far: far, Left: left}
}

// end is one of the end, so far ahead.
func end(far int) api.Hint { return api.Hint{Class: api.Finish, Edge: -1, Far: far, Left: far} }

// wantHints asks for all hints on a way, and so for the first one.
func wantHints(t *testing.T, x *turns.Turns, at int, left []int, want ...api.Hint) {
	t.Helper()
	if got, ok := Hint(x, at, left...); !ok || got != want[0] {
		t.Errorf("Hint(%d, %v) = %v, %t; want %v", at, left, got, ok, want[0])
	}
	if got := All(x, at, left...); !slices.Equal(got, want) {
		t.Errorf("All(%d, %v) = %v, want %v", at, left, got, want)
	}
}

// wantNone asks for none.
func wantNone(t *testing.T, x *turns.Turns, at int, left ...int) {
	t.Helper()
	if got, ok := Hint(x, at, left...); ok || got != (api.Hint{}) {
		t.Errorf("Hint(%d, %v) = %v, %t", at, left, got, ok)
	}
	if got := All(x, at, left...); len(got) != 0 {
		t.Errorf("All(%d, %v) = %v", at, left, got)
	}
}

// anyWalk is a walk from an edge, of at most so many edges.
func anyWalk(r *rand.Rand, x *turns.Turns, from, most int) []int {
	var edges []int
	for range r.Intn(most + 1) {
		next := x.Next(from)
		if len(next) == 0 {
			break
		}
		from = next[r.Intn(len(next))]
		edges = append(edges, from)
	}
	return edges
}

// told is the chapter's Hint, place by place.
func told(x *turns.Turns, at int, left []int) api.Hint {
	weight, _ := walk.Weight(x, left...)
	places := append([]int{at}, left...)
	for i, e := range places {
		far, _ := walk.Weight(x, left[:i]...)
		if i == len(left) {
			return api.Hint{Class: api.Finish, Edge: -1, Far: far, Left: weight}
		}
		if len(x.Next(e)) != 1 {
			return api.Hint{Class: bend.Of(x.Graph, e, left[i]), Edge: left[i], Far: far, Left: weight}
		}
	}
	return api.Hint{}
}

func ExampleHint() {
	// Two roads from where the first one ends.
	g, _ := graph.New(api.Graph{
		Nodes: []api.Node{{X: 0, Y: 0}, {X: 1, Y: 0}, {X: 1, Y: 1}},
		Edges: []api.Edge{{From: 0, To: 1, W: 5}, {From: 1, To: 2, W: 6}, {From: 1, To: 0, W: 7}},
	})
	h, ok := Hint(turns.New(g), 0, 1)
	fmt.Printf("%+v %t\n", h, ok)
	// Output: {Class:3 Edge:1 Far:0 Left:6} true
}

// P21.1, P21.2

func TestOnTheWay(t *testing.T) {
	x := road()
	wantHints(t, x, 0, []int{1, 2, 3, 4}, hint(api.Left, 3, 6, 30), end(16))
	wantHints(t, x, 1, []int{2, 3, 4}, hint(api.Left, 3, 4, 28), end(16))
	wantHints(t, x, 2, []int{3, 4}, hint(api.Left, 3, 0, 24), end(16))
	wantHints(t, x, 3, []int{4}, end(16))
	wantHints(t, x, 4, nil, end(0))
	wantHints(t, x, 0, []int{1, 2, 5}, hint(api.Right, 5, 6, 38), end(0))
}

func TestTheLastOneIsTheEnd(t *testing.T) {
	x := road()
	// Though one decides there, or comes no further.
	wantHints(t, x, 0, []int{1, 2}, end(6))
	wantHints(t, x, 2, nil, end(0))
	wantHints(t, x, 5, nil, end(0))
	wantHints(t, x, 0, []int{1}, end(2))
	wantHints(t, x, 0, nil, end(0))
}

func TestBansDecide(t *testing.T) {
	// Nothing to decide, where all others are banned; and something, where one more may be.
	wantHints(t, road(api.Ban{A: 2, B: 5}), 0, []int{1, 2, 3, 4}, end(30))
	wantHints(t, road(api.Ban{A: 2, B: 3}), 1, []int{2, 5}, end(36))
}

func TestSameEdgeTwice(t *testing.T) {
	x := road()
	round := []int{2, 3, 4, 6}
	wantHints(t, x, 1, slices.Concat(round, []int{1, 2, 3, 4}),
		hint(api.Left, 3, 4, 122), hint(api.Left, 3, 16+64+2+4, 16+64+2+4+8+16), end(16))
	// A loop that is the only way on.
	loop := turnsOf(api.Graph{Nodes: make([]api.Node, 1), Edges: []api.Edge{{W: 3}}})
	wantHints(t, loop, 0, []int{0, 0, 0}, end(9))
	// And one of two: nobody knows which way it goes.
	loop = turnsOf(api.Graph{Nodes: make([]api.Node, 1), Edges: []api.Edge{{W: 3}, {W: 5}}})
	wantHints(t, loop, 0, []int{0, 1}, hint(api.NoTurn, 0, 0, 8), hint(api.NoTurn, 1, 0, 5), end(0))
}

func TestNoWalk(t *testing.T) {
	x := road()
	wantNone(t, x, 0, 2)
	wantNone(t, x, 0, 1, 3)
	wantNone(t, x, 0, 1, 2, 4)
	wantNone(t, x, 0, 0)
	wantNone(t, road(api.Ban{A: 2, B: 3}), 0, 1, 2, 3, 4)
	for _, e := range wrong {
		wantNone(t, x, e)
		wantNone(t, x, e, 1)
		wantNone(t, x, 0, e)
		wantNone(t, x, 0, 1, 2, e)
		wantNone(t, x, 0, 1, e, 3)
	}
	for _, none := range []*turns.Turns{nil, {}, turnsOf(api.Graph{Nodes: make([]api.Node, 1)})} {
		wantNone(t, none, 0)
		wantNone(t, none, 0, 0)
		wantNone(t, none, -1, 0)
	}
}

func TestAsTheChapterSays(t *testing.T) {
	r := rand.New(rand.NewSource(21))
	for range 500 {
		p := sample.Graph(r.Intn, 1+r.Intn(9), 1+r.Intn(14))
		x := turnsOf(p)
		at := r.Intn(len(p.Edges))
		left := anyWalk(r, x, at, 12)
		want := []api.Hint{told(x, at, left)}
		for from, rest := at, left; want[len(want)-1].Edge >= 0; {
			last := want[len(want)-1]
			// The first place at which its Edge is next: its Far tells which.
			gone, far := 0, 0
			for ; len(x.Next(from)) == 1; gone++ {
				from = rest[gone]
				far += p.Edges[from].W
			}
			if far != last.Far || rest[gone] != last.Edge {
				t.Fatalf("%v, of %v from %d", last, rest, from)
			}
			from, rest = rest[gone], rest[gone+1:]
			want = append(want, told(x, from, rest))
		}
		wantHints(t, x, at, left, want...)
		if t.Failed() {
			t.Fatalf("of %v", p)
		}
	}
}

func TestLongWay(t *testing.T) {
	x := turnsOf(api.Graph{Nodes: make([]api.Node, 1), Edges: []api.Edge{{W: 65535}, {W: 1}}})
	left := make([]int, 100000)
	if h, ok := Hint(x, 0, left...); !ok || h != hint(api.NoTurn, 0, 0, 6553500000) {
		t.Errorf("Hint of a long way: %v, %t", h, ok)
	}
	if all := All(x, 0, left...); len(all) != 100001 || all[100000] != end(0) {
		t.Errorf("%d hints of a long way", len(all))
	}
}

// P21.3

func TestAllTogether(t *testing.T) {
	r := rand.New(rand.NewSource(213))
	for range 500 {
		p := sample.Graph(r.Intn, 1+r.Intn(9), 1+r.Intn(20))
		x := turnsOf(p)
		at := r.Intn(len(p.Edges))
		left := anyWalk(r, x, at, 12)
		all := All(x, at, left...)
		sum := 0
		for _, h := range all {
			if h.Left != all[0].Left-sum {
				t.Fatalf("%v of %v: behind %d", h, all, sum)
			}
			sum += h.Far
			if h.Edge >= 0 {
				sum += p.Edges[h.Edge].W
			}
		}
		if sum != all[0].Left {
			t.Fatalf("%v: together %d", all, sum)
		}
	}
}

func TestArgumentsAndAnswers(t *testing.T) {
	x := road()
	room := []int{1, 2, 3, 4, 9, 9}
	Hint(x, 0, room[:4]...)
	all, other := All(x, 0, room[:4]...), All(x, 0, room[:4]...)
	if !slices.Equal(room, []int{1, 2, 3, 4, 9, 9}) {
		t.Errorf("the way, or its room, was changed: %v", room)
	}
	sample.Overwrite(all, end(99))
	if !slices.Equal(other, []api.Hint{hint(api.Left, 3, 6, 30), end(16)}) {
		t.Errorf("an answer was changed: %v", other)
	}
}
