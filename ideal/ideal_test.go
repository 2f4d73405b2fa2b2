package ideal

import (
	"fmt"
	"math"
	"slices"
	"testing"

	"milepost/api"
	"milepost/message"
	"milepost/sample"
)

// square is four nodes round, both ways: edges 0 to 3 the one way round, 4 to 7 the other one; 8 goes across; node 4 is alone.
func square() api.Graph {
	return api.Graph{
		Nodes: []api.Node{{X: 0, Y: 0}, {X: 10, Y: 0}, {X: 10, Y: 10}, {X: 0, Y: 10}, {X: 5, Y: 20}},
		Edges: []api.Edge{{From: 0, To: 1, W: 2}, {From: 1, To: 2, W: 3}, {From: 2, To: 3, W: 4}, {From: 3, To: 0, W: 5}, {From: 1, To: 0, W: 2}, {From: 2, To: 1, W: 3}, {From: 3, To: 2, W: 4}, {From: 0, To: 3, W: 5}, {From: 0, To: 2, W: 6}},
	}
}

// mustNew is the Ideal of the square.
func mustNew(t *testing.T) *Ideal {
	t.Helper()
	i, e := New(square())
	if i == nil || e != api.OK {
		t.Fatalf("New: %v, %d", i, e)
	}
	return i
}

// What the server hears.
func up(d, conn int, m api.Msg) api.Heard { return api.Heard{D: d, Conn: conn, Up: true, Msg: m} }
func openAt(d, conn, pos, dest int) api.Heard {
	return up(d, conn, api.Msg{Kind: api.Open, Pos: pos, Dest: dest})
}
func reportAt(d, conn, pos int) api.Heard {
	return up(d, conn, api.Msg{Kind: api.Report, Pos: pos})
}

// What an Ideal tells.
func opened() api.Msg         { return api.Msg{Kind: api.Opened} }
func noRoute() api.Msg        { return api.Msg{Kind: api.NoRoute} }
func arrived() api.Msg        { return api.Msg{Kind: api.Arrived} }
func wrongAt(pos int) api.Msg { return api.Msg{Kind: api.Wrong, Pos: pos} }
func route(weight int, edges ...int) api.Msg {
	return api.Msg{Kind: api.Route, Weight: weight, Edges: edges}
}
func next(class, edge, far, left int) api.Msg {
	return api.Msg{Kind: api.Next, Hint: api.Hint{Class: class, Edge: edge, Far: far, Left: left}}
}

// first is what one is told who asks from edge 3 to node 2, and what is told at edge 0 then.
func first() []api.Msg { return []api.Msg{opened(), route(5, 0, 1), next(api.Left, 0, 0, 5)} }
func atEdge0() api.Msg { return next(api.Left, 1, 0, 3) }

// line is a driver's connection whose Told is asked again and again.
type line struct {
	t       *testing.T
	i       *Ideal
	d, conn int
	seen    []api.Msg
}

// wants asks for what was told since it asked last.
func (l *line) wants(what string, more ...api.Msg) {
	l.t.Helper()
	want := slices.Concat(l.seen, more)
	got := l.i.Told(l.d, l.conn)
	if !slices.EqualFunc(got, want, message.Same) {
		l.t.Errorf("%s: driver %d, connection %d:\ntold %+v\nwant %+v", what, l.d, l.conn, got, want)
	}
	l.seen = got
}

func ExampleIdeal_Told() {
	i, _ := New(api.Graph{Nodes: make([]api.Node, 2), Edges: []api.Edge{{From: 0, To: 1, W: 5}, {From: 1, To: 0, W: 7}}})
	i.Heard(api.Heard{D: 3, Conn: 1, Up: true, Msg: api.Msg{Kind: api.Open, Pos: 0, Dest: 0}})
	for _, m := range i.Told(3, 1) {
		fmt.Println(m.Kind == api.Opened, m.Kind == api.Route, m.Kind == api.Next, m.Edges)
	}
	// Output:
	// true false false []
	// false true false [1]
	// false false true []
}

// P34.1

func TestNew(t *testing.T) {
	for what, g := range map[string]api.Graph{
		"nothing":   {},
		"257 nodes": sample.Loops(257, 0, 0),
		"513 edges": sample.Loops(1, 513, 0),
		"no weight": {Nodes: make([]api.Node, 1), Edges: make([]api.Edge, 1)},
		"no edge":   {Nodes: make([]api.Node, 1), Bans: make([]api.Ban, 1)},
	} {
		if i, e := New(g); i != nil || e != api.ErrArg {
			t.Errorf("%s: %v, %d", what, i, e)
		}
	}
	// Ways are asked of 12 alone: of levels this would take long.
	for _, g := range []api.Graph{square(), sample.Loops(1, 0, 0), sample.Loops(256, 512, 0)} {
		if i, e := New(g); i == nil || e != api.OK {
			t.Errorf("%v, %d", i, e)
		}
	}
	for d := range 3 {
		if got := mustNew(t).Told(d, 1); len(got) != 0 {
			t.Errorf("of nobody: %v", got)
		}
	}
}

func TestOpen(t *testing.T) {
	i := mustNew(t)
	l := line{t: t, i: i, d: 1, conn: 1}
	i.Heard(openAt(1, 1, 3, 2))
	l.wants("Open", first()...)
	i.Heard(openAt(1, 2, 1, 2))
	(&line{t: t, i: i, d: 1, conn: 2}).wants("at the end", opened(), route(0), arrived())
	i.Heard(openAt(2, 1, 0, 4))
	(&line{t: t, i: i, d: 2, conn: 1}).wants("no way", opened(), noRoute())
	l.wants("others")
	// An elder one's is gone, whatever came of it.
	i.Heard(reportAt(1, 1, 0))
	i.Heard(openAt(1, 1, 0, 2))
	l.seen = nil
	l.wants("a second Open", opened(), route(3, 1), next(api.Left, 1, 0, 3))
	i.Heard(reportAt(1, 1, 1))
	l.wants("the end", arrived())
	i.Heard(openAt(1, 1, 3, 2))
	l.seen = nil
	l.wants("a third Open", first()...)
	// Any numbers may be a driver's, and a connection's.
	for _, n := range []int{math.MinInt, -1, 0, 16, math.MaxInt} {
		i.Heard(openAt(n, n, 3, 2))
		(&line{t: t, i: i, d: n, conn: n}).wants("Open", first()...)
	}
}

func TestOpenOfWhatIsNone(t *testing.T) {
	i := mustNew(t)
	l := line{t: t, i: i, d: 1, conn: 1}
	for _, n := range []int{math.MinInt, -1, 9, 65535, math.MaxInt} {
		i.Heard(openAt(1, 1, n, 2))
		l.wants("no edge")
		i.Heard(openAt(1, 1, 3, n))
		l.wants("no node")
		// It is known, but has no session.
		i.Heard(reportAt(1, 1, 3))
		i.Heard(reportAt(1, 1, 9))
		i.Close(1, 5)
		i.Open(1)
		l.wants("no session")
	}
	i.Heard(openAt(1, 1, 3, 5))
	l.wants("node 5")
	i.Heard(openAt(1, 1, 3, 2))
	l.wants("Open", first()...)
	// In the place of an elder one, whose Told is gone.
	i.Heard(openAt(1, 1, 9, 2))
	l.seen = nil
	l.wants("no edge")
	i.Heard(reportAt(1, 1, 0))
	l.wants("no session")
}

func TestReport(t *testing.T) {
	i := mustNew(t)
	i.Heard(reportAt(1, 1, 3))
	l := line{t: t, i: i, d: 1, conn: 1}
	l.wants("nobody")
	i.Heard(openAt(1, 1, 3, 2))
	l.wants("Open", first()...)
	i.Heard(reportAt(1, 1, 3))
	l.wants("its place", next(api.Left, 0, 0, 5))
	i.Heard(reportAt(1, 1, 0))
	l.wants("on its way", atEdge0())
	for _, n := range []int{math.MinInt, -1, 9, math.MaxInt} {
		i.Heard(reportAt(1, 1, n))
		l.wants("no edge", wrongAt(n))
	}
	i.Heard(reportAt(1, 1, 0))
	l.wants("its place", atEdge0())
	i.Heard(reportAt(1, 1, 7))
	l.wants("off its way", route(4, 6), next(api.Right, 6, 0, 4))
	i.Heard(reportAt(2, 1, 6))
	i.Heard(reportAt(1, 2, 6))
	l.wants("of others")
	i.Heard(reportAt(1, 1, 6))
	l.wants("the end", arrived())
	i.Heard(reportAt(1, 1, 6))
	i.Heard(reportAt(1, 1, 9))
	i.Close(6, 9)
	l.wants("it has arrived")
}

func TestReportPastTheNextOne(t *testing.T) {
	i := mustNew(t)
	l := line{t: t, i: i, d: 1, conn: 1}
	i.Heard(openAt(1, 1, 3, 2))
	l.wants("Open", first()...)
	// The second one of its way is off it.
	i.Heard(reportAt(1, 1, 1))
	l.wants("there", route(0), arrived())
}

func TestNothingOfAllElse(t *testing.T) {
	i := mustNew(t)
	l := line{t: t, i: i, d: 1, conn: 1}
	i.Heard(api.Heard{D: 1, Conn: 1, Msg: api.Msg{Kind: api.Open, Pos: 3, Dest: 2}})
	l.wants("not Up")
	i.Heard(openAt(1, 1, 3, 2))
	l.wants("Open", first()...)
	i.Heard(api.Heard{D: 1, Conn: 1, Msg: api.Msg{Kind: api.Open, Pos: 0, Dest: 2}})
	i.Heard(api.Heard{D: 1, Conn: 1, Msg: api.Msg{Kind: api.Report, Pos: 0}})
	for _, kind := range []int{math.MinInt, -1, 0, api.Bye, api.Opened, api.Route, api.NoRoute, api.Next, api.Arrived, api.Wrong, 10, math.MaxInt} {
		i.Heard(up(1, 1, api.Msg{Kind: kind, Pos: 0, Dest: 2}))
	}
	l.wants("nothing")
	// Behind a Bye it is known still.
	i.Heard(reportAt(1, 1, 0))
	l.wants("Report", atEdge0())
}

func TestClose(t *testing.T) {
	i := mustNew(t)
	a, b, c := line{t: t, i: i, d: 1, conn: 1}, line{t: t, i: i, d: 1, conn: 2}, line{t: t, i: i, d: 2, conn: 1}
	i.Heard(openAt(1, 1, 3, 2))
	a.wants("Open", first()...)
	i.Heard(openAt(1, 2, 0, 2))
	b.wants("Open", opened(), route(3, 1), next(api.Left, 1, 0, 3))
	i.Heard(openAt(2, 1, 1, 3))
	c.wants("Open", opened(), route(4, 2), next(api.Left, 2, 0, 4))
	i.Close(9, 5)
	i.Close(-1, 5)
	for _, ticks := range []int{math.MinInt, -1, 0, 1<<20 + 1, math.MaxInt} {
		i.Close(1, ticks)
	}
	a.wants("refused")
	b.wants("refused")
	i.Close(1, 1<<20)
	a.wants("Close", route(6, 8), next(api.HardLeft, 8, 0, 6))
	b.wants("Close", route(8, 4, 8), next(api.Back, 4, 0, 8))
	c.wants("not on its way")
	i.Close(1, 7)
	a.wants("closed already")
	// Its own edge alone.
	i.Close(3, 9)
	a.wants("its place")
	i.Close(8, 9)
	a.wants("Close", route(9, 7, 6), next(api.Back, 7, 0, 9))
	b.wants("Close", route(11, 4, 7, 6), next(api.Back, 4, 0, 11))
	i.Close(6, 9)
	a.wants("Close", noRoute())
	i.Close(7, 9)
	i.Close(0, 9)
	a.wants("NoRoute is not told once more")
	i.Heard(reportAt(1, 1, 3))
	a.wants("but of a Report", noRoute())
}

func TestOpenAnEdge(t *testing.T) {
	i := mustNew(t)
	l := line{t: t, i: i, d: 1, conn: 1}
	for _, e := range []int{1, 8, 6, 5} {
		i.Close(e, 99)
	}
	i.Heard(openAt(1, 1, 3, 2))
	l.wants("all closed", opened(), noRoute())
	for _, e := range []int{math.MinInt, -1, 9, math.MaxInt, 0, 2} {
		i.Open(e)
	}
	l.wants("none, or open already")
	i.Open(5)
	l.wants("of no use")
	i.Open(8)
	l.wants("Open", route(6, 8), next(api.HardLeft, 8, 0, 6))
	i.Open(1)
	l.wants("it has a way")
	i.Open(8)
	i.Close(8, 5)
	l.wants("Close", route(5, 0, 1), next(api.Left, 0, 0, 5))
}

func TestTick(t *testing.T) {
	i := mustNew(t)
	a, b := line{t: t, i: i, d: 1, conn: 1}, line{t: t, i: i, d: 2, conn: 1}
	i.Tick()
	i.Tick()
	// Till 5, 6 and 1 << 20 + 2.
	i.Close(1, 3)
	i.Close(8, 4)
	i.Close(6, 1<<20)
	i.Heard(openAt(1, 1, 3, 2))
	i.Heard(openAt(2, 1, 7, 2))
	a.wants("Open", opened(), noRoute())
	b.wants("Open", opened(), noRoute())
	i.Tick()
	i.Tick()
	a.wants("at 4")
	i.Tick()
	a.wants("at 5", route(5, 0, 1), next(api.Left, 0, 0, 5))
	b.wants("at 5", route(10, 3, 0, 1), next(api.Back, 3, 0, 10))
	// A new time in the place of the elder one.
	i.Close(8, 9)
	i.Close(1, 1)
	a.wants("Close", noRoute())
	i.Tick()
	a.wants("at 6", route(5, 0, 1), next(api.Left, 0, 0, 5))
	for range 7 {
		i.Tick()
	}
	i.Close(0, 1)
	a.wants("at 13 edge 8 is closed", noRoute())
	i.Heard(openAt(3, 1, 3, 2))
	i.Tick()
	a.wants("at 14 it is not", route(5, 0, 1), next(api.Left, 0, 0, 5))
	i.Close(1, 1)
	a.wants("Close", route(6, 8), next(api.HardLeft, 8, 0, 6))
}

// P34.2

func TestToldIsNewMemory(t *testing.T) {
	g := square()
	i, _ := New(g)
	sample.OverwriteGraph(g)
	l := line{t: t, i: i, d: 1, conn: 1}
	i.Heard(openAt(1, 1, 3, 2))
	l.wants("Open", first()...)
	got := i.Told(1, 1)
	sample.Overwrite(got[1].Edges, 99)
	sample.Overwrite(got, api.Msg{})
	l.wants("overwritten")
	i.Heard(reportAt(1, 1, 0))
	l.wants("Report", atEdge0())
}

func TestFits(t *testing.T) {
	i := mustNew(t)
	i.Heard(openAt(1, 1, 3, 2))
	i.Heard(reportAt(1, 1, 0))
	all := i.Told(1, 1)
	for n := range len(all) + 1 {
		if !i.Fits(1, 1, all[:n]...) {
			t.Errorf("the first %d do not fit", n)
		}
	}
	misfit := func(what string, d, conn int, got ...api.Msg) {
		t.Helper()
		if i.Fits(d, conn, got...) {
			t.Errorf("%s: %v fits", what, got)
		}
	}
	misfit("one too much", 1, 1, append(i.Told(1, 1), arrived())...)
	misfit("not from the first one", 1, 1, all[1:]...)
	misfit("one is missing", 1, 1, all[0], all[2])
	misfit("twice", 1, 1, all[0], all[0])
	misfit("another driver's", 2, 1, all...)
	misfit("another connection's", 1, 2, all...)
	misfit("another connection's first one", 1, 2, opened())
	for n := range all {
		for what, turn := range map[string]func(m *api.Msg){
			"Kind":   func(m *api.Msg) { m.Kind++ },
			"Pos":    func(m *api.Msg) { m.Pos++ },
			"Dest":   func(m *api.Msg) { m.Dest++ },
			"Weight": func(m *api.Msg) { m.Weight++ },
			"Hint":   func(m *api.Msg) { m.Hint.Left++ },
			"Edges":  func(m *api.Msg) { m.Edges = append(m.Edges, 0) },
		} {
			got := i.Told(1, 1)
			turn(&got[n])
			misfit(what, 1, 1, got...)
		}
	}
	if !i.Fits(2, 1) || !i.Fits(math.MinInt, math.MaxInt) {
		t.Error("of nobody nothing does not fit")
	}
}

func TestNilAndZeroIdeal(t *testing.T) {
	for _, i := range []*Ideal{nil, {}} {
		i.Heard(openAt(1, 1, 3, 2))
		i.Heard(reportAt(1, 1, 3))
		i.Close(0, 1)
		i.Open(0)
		i.Tick()
		if got := i.Told(1, 1); len(got) != 0 || !i.Fits(1, 1) || i.Fits(1, 1, opened()) {
			t.Errorf("told %v, nothing fits: %t, Opened fits: %t", got, i.Fits(1, 1), i.Fits(1, 1, opened()))
		}
	}
}
