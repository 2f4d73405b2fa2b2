package bend

import (
	"fmt"
	"math"
	"math/rand"
	"testing"

	"milepost/api"
	"milepost/graph"
)

// wantClass asks for the class of two ways.
func wantClass(t *testing.T, ax, ay, bx, by, want int) {
	t.Helper()
	if got := Class(ax, ay, bx, by); got != want {
		t.Errorf("Class(%d, %d, %d, %d) = %d, want %d", ax, ay, bx, by, got, want)
	}
}

// wantBoth asks for the class of east and then (x, y), by how far up and left it goes, and for that of its mirror.
func wantBoth(t *testing.T, x, y, left, right int) {
	t.Helper()
	wantClass(t, 1, 0, x, y, left)
	wantClass(t, 1, 0, x, -y, right)
	// The length of neither way changes anything.
	wantClass(t, 40, 0, x, y, left)
	wantClass(t, 1, 0, 40*x, 40*y, left)
	wantClass(t, 40, 0, 40*x, -40*y, right)
}

func ExampleClass() {
	fmt.Println(Class(1, 0, 0, 1) == api.Left)
	// Output: true
}

// P9.1

func TestStraight(t *testing.T) {
	wantBoth(t, 1, 0, api.Straight, api.Straight)
	wantBoth(t, 4, 1, api.Straight, api.Straight)
	wantBoth(t, 5, 1, api.Straight, api.Straight)
	wantBoth(t, 100, 25, api.Straight, api.Straight)
}

func TestEase(t *testing.T) {
	wantBoth(t, 100, 26, api.EaseLeft, api.EaseRight)
	wantBoth(t, 3, 1, api.EaseLeft, api.EaseRight)
	wantBoth(t, 100, 99, api.EaseLeft, api.EaseRight)
	wantBoth(t, 1, 1, api.EaseLeft, api.EaseRight)
}

func TestPlain(t *testing.T) {
	wantBoth(t, 99, 100, api.Left, api.Right)
	wantBoth(t, 1, 2, api.Left, api.Right)
	wantBoth(t, 0, 1, api.Left, api.Right)
	wantBoth(t, -1, 2, api.Left, api.Right)
	wantBoth(t, -99, 100, api.Left, api.Right)
}

func TestHard(t *testing.T) {
	wantBoth(t, -1, 1, api.HardLeft, api.HardRight)
	wantBoth(t, -100, 99, api.HardLeft, api.HardRight)
	wantBoth(t, -3, 1, api.HardLeft, api.HardRight)
	wantBoth(t, -100, 26, api.HardLeft, api.HardRight)
}

func TestBack(t *testing.T) {
	wantBoth(t, -100, 25, api.Back, api.Back)
	wantBoth(t, -4, 1, api.Back, api.Back)
	wantBoth(t, -5, 1, api.Back, api.Back)
	wantBoth(t, -1, 0, api.Back, api.Back)
}

func TestNowhere(t *testing.T) {
	wantClass(t, 0, 0, 0, 0, api.NoTurn)
	for _, n := range []int{-4095, -1, 1, 4095} {
		wantClass(t, 0, 0, n, 0, api.NoTurn)
		wantClass(t, 0, 0, 0, n, api.NoTurn)
		wantClass(t, n, 0, 0, 0, api.NoTurn)
		wantClass(t, 0, n, 0, 0, api.NoTurn)
	}
}

func TestTooFar(t *testing.T) {
	for _, n := range []int{math.MinInt, -1 << 32, -4096, 4096, 1 << 32, math.MaxInt} {
		wantClass(t, n, 0, 1, 0, api.NoTurn)
		wantClass(t, 1, n, 1, 0, api.NoTurn)
		wantClass(t, 1, 0, n, 0, api.NoTurn)
		wantClass(t, 1, 0, 1, n, api.NoTurn)
		wantClass(t, n, n, n, n, api.NoTurn)
	}
}

func TestFurthest(t *testing.T) {
	wantClass(t, 4095, 0, 4095, 0, api.Straight)
	wantClass(t, 4095, 4095, 4095, 4095, api.Straight)
	wantClass(t, 4095, 4095, -4095, -4095, api.Back)
	wantClass(t, -4095, -4095, 4095, -4095, api.Left)
	wantClass(t, 4095, -4095, -4095, -4095, api.Right)
	wantClass(t, 0, -4095, 4095, -4095, api.EaseLeft)
	wantClass(t, 0, 4095, -4095, -4095, api.HardLeft)
	wantClass(t, 4095, 0, 4095, -4095, api.EaseRight)
	wantClass(t, 4095, 0, -4095, -4095, api.HardRight)
}

// classOf is the chapter's words, one by one.
func classOf(ax, ay, bx, by int) int {
	c, d := ax*by-ay*bx, ax*bx+ay*by
	far := max(c, -c)
	left := c > 0
	pick := func(l, r int) int {
		if left {
			return l
		}
		return r
	}
	switch {
	case ax == 0 && ay == 0 || bx == 0 && by == 0:
		return api.NoTurn
	case d > 0 && 4*far <= d:
		return api.Straight
	case d < 0 && 4*far <= -d:
		return api.Back
	case d > 0 && far <= d:
		return pick(api.EaseLeft, api.EaseRight)
	case d < 0 && far <= -d:
		return pick(api.HardLeft, api.HardRight)
	}
	return pick(api.Left, api.Right)
}

// eachTwo gives all short ways, and many of any length.
func eachTwo(do func(ax, ay, bx, by int)) {
	for i := range 9 * 9 * 9 * 9 {
		do(i%9-4, i/9%9-4, i/81%9-4, i/729-4)
	}
	r := rand.New(rand.NewSource(9))
	span := func() int { return r.Intn(8191) - 4095 }
	for range 20000 {
		do(span(), span(), span(), span())
	}
}

func TestAnyClass(t *testing.T) {
	eachTwo(func(ax, ay, bx, by int) {
		if got, want := Class(ax, ay, bx, by), classOf(ax, ay, bx, by); got != want {
			t.Fatalf("Class(%d, %d, %d, %d) = %d, want %d", ax, ay, bx, by, got, want)
		}
	})
}

// crossing is a road east, three on from its end, one back, a loop, and one between two nodes of one place.
func crossing() api.Graph {
	return api.Graph{
		Nodes: []api.Node{{X: 0, Y: 0}, {X: 100, Y: 0}, {X: 200, Y: 10}, {X: 100, Y: 100}, {X: 170, Y: 60}, {X: 100, Y: 0}},
		Edges: []api.Edge{{From: 0, To: 1, W: 1}, {From: 1, To: 2, W: 1}, {From: 1, To: 3, W: 1}, {From: 1, To: 4, W: 1}, {From: 1, To: 0, W: 1}, {From: 1, To: 1, W: 1}, {From: 1, To: 5, W: 1}},
		Bans:  []api.Ban{{A: 0, B: 2}},
	}
}

func TestOf(t *testing.T) {
	g, _ := graph.New(crossing())
	for b, want := range []int{api.Straight, api.Straight, api.Left, api.EaseLeft, api.Back, api.NoTurn, api.NoTurn} {
		if got := Of(g, 0, b); got != want {
			t.Errorf("Of(0, %d) = %d, want %d", b, got, want)
		}
	}
	// They need not be a turn that may be, nor one at all; and which is first counts.
	for _, c := range [][3]int{{2, 0, api.Right}, {3, 0, api.EaseRight}, {4, 2, api.Right}, {4, 3, api.HardRight}, {3, 4, api.HardLeft}, {5, 0, api.NoTurn}, {6, 6, api.NoTurn}, {2, 2, api.Straight}} {
		if got := Of(g, c[0], c[1]); got != c[2] {
			t.Errorf("Of(%d, %d) = %d, want %d", c[0], c[1], got, c[2])
		}
	}
}

func TestOfFurthestPlaces(t *testing.T) {
	g, _ := graph.New(api.Graph{
		Nodes: []api.Node{{X: 0, Y: 4095}, {X: 4095, Y: 0}, {X: 4095, Y: 4095}},
		Edges: []api.Edge{{From: 0, To: 1, W: 1}, {From: 1, To: 2, W: 1}, {From: 1, To: 0, W: 1}},
	})
	for b, want := range []int{api.Straight, api.HardLeft, api.Back} {
		if got := Of(g, 0, b); got != want {
			t.Errorf("Of(0, %d) = %d, want %d", b, got, want)
		}
	}
}

func TestOfNoEdge(t *testing.T) {
	g, _ := graph.New(crossing())
	for _, e := range []int{math.MinInt, -1, 7, 8, math.MaxInt} {
		if a, b, c := Of(g, e, 0), Of(g, 0, e), Of(g, e, e); a != api.NoTurn || b != api.NoTurn || c != api.NoTurn {
			t.Errorf("of %d: %d, %d, %d", e, a, b, c)
		}
	}
	for what, g := range map[string]*graph.Graph{"nil": nil, "zero": {}} {
		for _, e := range []int{math.MinInt, -1, 0, 1, math.MaxInt} {
			if got := Of(g, e, e); got != api.NoTurn {
				t.Errorf("%s: Of(%d, %d) = %d", what, e, e, got)
			}
		}
	}
}

func TestAnyOf(t *testing.T) {
	r := rand.New(rand.NewSource(91))
	p := api.Graph{}
	for range 20 {
		p.Nodes = append(p.Nodes, api.Node{X: r.Intn(4096), Y: r.Intn(4096)})
	}
	for range 60 {
		p.Edges = append(p.Edges, api.Edge{From: r.Intn(20), To: r.Intn(20), W: 1})
	}
	g, _ := graph.New(p)
	way := func(e int) (x, y int) {
		from, to := p.Nodes[p.Edges[e].From], p.Nodes[p.Edges[e].To]
		return to.X - from.X, to.Y - from.Y
	}
	for a := range p.Edges {
		for b := range p.Edges {
			ax, ay := way(a)
			bx, by := way(b)
			if got, want := Of(g, a, b), classOf(ax, ay, bx, by); got != want {
				t.Fatalf("Of(%d, %d) = %d, want %d", a, b, got, want)
			}
		}
	}
}

// P9.2

func TestMirror(t *testing.T) {
	for class, want := range []int{api.NoTurn, api.Straight, api.EaseRight, api.Right, api.HardRight, api.Back, api.EaseLeft, api.Left, api.HardLeft, api.Finish} {
		if got := Mirror(class); got != want {
			t.Errorf("Mirror(%d) = %d, want %d", class, got, want)
		}
	}
	for _, class := range []int{math.MinInt, -2, -1, 10, 11, math.MaxInt} {
		if got := Mirror(class); got != class {
			t.Errorf("Mirror(%d) = %d", class, got)
		}
	}
}

// P9.3

func TestMirroredWaysTurnTheOtherWay(t *testing.T) {
	eachTwo(func(ax, ay, bx, by int) {
		class := Class(ax, ay, bx, by)
		if up, side := Class(ax, -ay, bx, -by), Class(-ax, ay, -bx, by); up != Mirror(class) || side != Mirror(class) {
			t.Fatalf("%d %d, %d %d: %d, mirrored %d, %d", ax, ay, bx, by, class, up, side)
		}
	})
}

func TestQuarterTurnsTurnAlike(t *testing.T) {
	eachTwo(func(ax, ay, bx, by int) {
		class := Class(ax, ay, bx, by)
		if quarter, half := Class(-ay, ax, -by, bx), Class(-ax, -ay, -bx, -by); quarter != class || half != class {
			t.Fatalf("%d %d, %d %d: %d, turned %d, %d", ax, ay, bx, by, class, quarter, half)
		}
	})
}
