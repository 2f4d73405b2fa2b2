package session

import (
	"fmt"
	"math"
	"math/rand"
	"slices"
	"testing"

	"milepost/api"
	"milepost/dist"
	"milepost/engine"
	"milepost/guide"
	"milepost/least"
	"milepost/message"
	"milepost/sample"
	"milepost/turns"
	"milepost/walk"
)

// square is four nodes round, both ways: edges 0 to 3 the one way round, 4 to 7 the other one; 8 goes across; node 4 is alone.
func square() api.Graph {
	return api.Graph{
		Nodes: []api.Node{{X: 0, Y: 0}, {X: 10, Y: 0}, {X: 10, Y: 10}, {X: 0, Y: 10}, {X: 5, Y: 20}},
		Edges: []api.Edge{{From: 0, To: 1, W: 2}, {From: 1, To: 2, W: 3}, {From: 2, To: 3, W: 4}, {From: 3, To: 0, W: 5}, {From: 1, To: 0, W: 2}, {From: 2, To: 1, W: 3}, {From: 3, To: 2, W: 4}, {From: 0, To: 3, W: 5}, {From: 0, To: 2, W: 6}},
	}
}

// engineOf is the Engine of a graph that may be.
func engineOf(g api.Graph) *engine.Engine {
	e, _ := engine.New(g)
	return e
}

// shut is a list of nine edges in which these are closed.
func shut(edges ...int) []bool {
	closed := make([]bool, 9)
	for _, e := range edges {
		closed[e] = true
	}
	return closed
}

// What a Session tells.
func opened() api.Msg         { return api.Msg{Kind: api.Opened} }
func noRoute() api.Msg        { return api.Msg{Kind: api.NoRoute} }
func arrived() api.Msg        { return api.Msg{Kind: api.Arrived} }
func wrongAt(pos int) api.Msg { return api.Msg{Kind: api.Wrong, Pos: pos} }
func route(weight int, edges ...int) api.Msg {
	return api.Msg{Kind: api.Route, Weight: weight, Edges: edges}
}
func next(class, edge, far, left int) api.Msg {
	return api.Msg{Kind: api.Next, Hint: api.Hint{Class: class, Edge: edge, Far: far, Left: left}}
}

// wantTold asks for messages.
func wantTold(t *testing.T, what string, got []api.Msg, want ...api.Msg) {
	t.Helper()
	if !slices.EqualFunc(got, want, message.Same) {
		t.Errorf("%s: told %+v, want %+v", what, got, want)
	}
}

// wantState asks where it is, and what is left of its way.
func wantState(t *testing.T, s *Session, at int, isDone bool, left ...int) {
	t.Helper()
	got, ok := s.Left()
	if s.At() != at || s.Done() != isDone || !ok || !slices.Equal(got, left) {
		t.Errorf("at %d, done %t, left %v, %t; want %d, %t, %v", s.At(), s.Done(), got, ok, at, isDone, left)
	}
}

// wantNoWay asks where it is, and that it has no way.
func wantNoWay(t *testing.T, s *Session, at int) {
	t.Helper()
	if left, ok := s.Left(); s.At() != at || s.Done() || ok || len(left) != 0 {
		t.Errorf("at %d, done %t, left %v, %t; want %d, and no way", s.At(), s.Done(), left, ok, at)
	}
}

// mustNew is a Session in the square.
func mustNew(t *testing.T, at, node int, closed []bool, want ...api.Msg) *Session {
	t.Helper()
	s, told, e := New(engineOf(square()), at, node, closed)
	if s == nil || e != api.OK {
		t.Fatalf("New(%d, %d): %v, %d", at, node, s, e)
	}
	wantTold(t, "New", told, want...)
	return s
}

func ExampleNew() {
	e, _ := engine.New(api.Graph{Nodes: make([]api.Node, 2), Edges: []api.Edge{{From: 0, To: 1, W: 5}, {From: 1, To: 0, W: 7}}})
	_, told, _ := New(e, 0, 1, nil)
	for _, m := range told {
		fmt.Println(m.Kind == api.Opened, m.Kind == api.Route, m.Kind == api.Arrived, m.Edges)
	}
	// Output:
	// true false false []
	// false true false []
	// false false true []
}

// P28.1

func TestNewRefuses(t *testing.T) {
	e := engineOf(square())
	refused := func(what string, e *engine.Engine, at, node int) {
		t.Helper()
		if s, told, why := New(e, at, node, nil); s != nil || len(told) != 0 || why != api.ErrArg {
			t.Errorf("%s: %v, %v, %d", what, s, told, why)
		}
	}
	refused("no Engine", nil, 0, 0)
	refused("a zero Engine", &engine.Engine{}, 0, 0)
	refused("no graph", &engine.Engine{Turns: &turns.Turns{}}, 0, 0)
	refused("no edges", engineOf(api.Graph{Nodes: make([]api.Node, 1)}), 0, 0)
	for _, n := range []int{math.MinInt, -1, 9, 10, math.MaxInt} {
		refused("no edge", e, n, 0)
		refused("no node", e, 0, n)
	}
	refused("node 5", e, 0, 5)
	if s, _, why := New(e, 8, 4, nil); s == nil || why != api.OK {
		t.Errorf("the last edge, and node: %v, %d", s, why)
	}
}

func TestOpened(t *testing.T) {
	s := mustNew(t, 3, 2, nil, opened(), route(5, 0, 1), next(api.Left, 0, 0, 5))
	wantState(t, s, 3, false, 0, 1)
	s = mustNew(t, 3, 2, shut(0), opened(), route(6, 8), next(api.HardLeft, 8, 0, 6))
	wantState(t, s, 3, false, 8)
	// Its own edge may be closed.
	s = mustNew(t, 3, 2, shut(3, 8), opened(), route(5, 0, 1), next(api.Left, 0, 0, 5))
	wantState(t, s, 3, false, 0, 1)
}

func TestOpenedAtTheEnd(t *testing.T) {
	for e, node := range []int{1, 2, 3, 0, 0, 1, 2, 3, 2} {
		s := mustNew(t, e, node, shut(0, 1, 2, 3, 4, 5, 6, 7, 8), opened(), route(0), arrived())
		wantState(t, s, e, true)
	}
}

func TestOpenedWithoutAWay(t *testing.T) {
	wantNoWay(t, mustNew(t, 3, 4, nil, opened(), noRoute()), 3)
	wantNoWay(t, mustNew(t, 3, 2, shut(8, 1, 6), opened(), noRoute()), 3)
	wantNoWay(t, mustNew(t, 0, 0, shut(3, 4), opened(), noRoute()), 0)
}

// P28.2

func TestReportAtItsPlace(t *testing.T) {
	s := mustNew(t, 3, 2, nil, opened(), route(5, 0, 1), next(api.Left, 0, 0, 5))
	for range 3 {
		wantTold(t, "at its place", s.Report(3, nil), next(api.Left, 0, 0, 5))
		wantState(t, s, 3, false, 0, 1)
	}
	// Its hint alone, whatever is closed by now.
	wantTold(t, "at its place", s.Report(3, shut(0, 3)), next(api.Left, 0, 0, 5))
}

func TestReportOnItsWay(t *testing.T) {
	s := mustNew(t, 3, 2, nil, opened(), route(5, 0, 1), next(api.Left, 0, 0, 5))
	wantTold(t, "one on", s.Report(0, shut(0, 1)), next(api.Left, 1, 0, 3))
	wantState(t, s, 0, false, 1)
	wantTold(t, "there", s.Report(0, nil), next(api.Left, 1, 0, 3))
	wantTold(t, "to the end", s.Report(1, nil), arrived())
	wantState(t, s, 1, true)
}

func TestReportOffItsWay(t *testing.T) {
	s := mustNew(t, 3, 2, nil, opened(), route(5, 0, 1), next(api.Left, 0, 0, 5))
	wantTold(t, "back", s.Report(7, nil), route(4, 6), next(api.Right, 6, 0, 4))
	wantState(t, s, 7, false, 6)
	wantTold(t, "far off", s.Report(4, shut(0)), route(6, 8), next(api.HardRight, 8, 0, 6))
	wantState(t, s, 4, false, 8)
	// The edge ahead of its place is off it, too.
	s = mustNew(t, 3, 2, nil, opened(), route(5, 0, 1), next(api.Left, 0, 0, 5))
	s.Report(0, nil)
	wantTold(t, "back at the first one", s.Report(3, nil), route(5, 0, 1), next(api.Left, 0, 0, 5))
	// So is one of its way that is not the first one: the end of all.
	wantTold(t, "the second one", s.Report(1, nil), route(0), arrived())
	wantState(t, s, 1, true)
}

func TestReportOfNoEdge(t *testing.T) {
	s := mustNew(t, 3, 2, nil, opened(), route(5, 0, 1), next(api.Left, 0, 0, 5))
	none := mustNew(t, 3, 4, nil, opened(), noRoute())
	for _, n := range []int{math.MinInt, -1, 9, 10, 65535, math.MaxInt} {
		wantTold(t, "no edge", s.Report(n, nil), wrongAt(n))
		wantState(t, s, 3, false, 0, 1)
		wantTold(t, "no edge", none.Report(n, nil), wrongAt(n))
		wantNoWay(t, none, 3)
	}
}

func TestReportWithoutAWay(t *testing.T) {
	s := mustNew(t, 3, 2, shut(8, 1, 6), opened(), noRoute())
	// It asks each time, at its place too.
	wantTold(t, "there", s.Report(3, shut(8, 1, 6)), noRoute())
	wantTold(t, "elsewhere", s.Report(2, shut(8, 1, 6)), noRoute())
	wantNoWay(t, s, 2)
	wantTold(t, "there, and open", s.Report(2, shut(8, 1)), route(4, 6), next(api.Back, 6, 0, 4))
	wantState(t, s, 2, false, 6)
	// None any more.
	wantTold(t, "off", s.Report(0, shut(8, 1, 6)), noRoute())
	wantNoWay(t, s, 0)
	wantTold(t, "at the end", s.Report(1, shut(8, 1, 6)), route(0), arrived())
}

func TestNothingWhenDone(t *testing.T) {
	s := mustNew(t, 1, 2, nil, opened(), route(0), arrived())
	for _, pos := range []int{-1, 0, 1, 2, 9} {
		wantTold(t, "done", s.Report(pos, nil))
		wantTold(t, "done", s.Changed([]int{pos}, []int{pos}, shut(1)))
		wantState(t, s, 1, true)
	}
}

func TestChangedWithAWay(t *testing.T) {
	s := mustNew(t, 3, 2, nil, opened(), route(5, 0, 1), next(api.Left, 0, 0, 5))
	// Nothing on its way.
	wantTold(t, "none", s.Changed(nil, nil, nil))
	wantTold(t, "no other one", s.Changed([]int{8, 3, 7, 2, -1, 9}, nil, shut(8, 3, 7, 2)))
	wantTold(t, "open", s.Changed(nil, []int{0, 1, 8}, nil))
	wantTold(t, "closed, but not told", s.Changed([]int{8}, []int{1}, shut(0, 1, 8)))
	wantState(t, s, 3, false, 0, 1)
	// The last one of it; with what is closed now, whatever shut says.
	wantTold(t, "the last one", s.Changed([]int{5, 1}, nil, shut(1, 5)), route(6, 8), next(api.HardLeft, 8, 0, 6))
	wantState(t, s, 3, false, 8)
	wantTold(t, "not closed any more", s.Changed([]int{8}, []int{1}, nil), route(5, 0, 1), next(api.Left, 0, 0, 5))
	// What lies behind is not on its way any more.
	s.Report(0, nil)
	wantTold(t, "behind", s.Changed([]int{0, 3}, nil, shut(0, 3)))
	wantTold(t, "ahead", s.Changed([]int{1}, nil, shut(1)), route(8, 4, 8), next(api.Back, 4, 0, 8))
	// And none.
	wantTold(t, "all", s.Changed([]int{0, 8}, nil, shut(1, 8, 6)), noRoute())
	wantNoWay(t, s, 0)
}

func TestChangedWithoutAWay(t *testing.T) {
	s := mustNew(t, 3, 2, shut(8, 1, 6), opened(), noRoute())
	// A NoRoute is not told once more.
	wantTold(t, "none", s.Changed(nil, nil, nil))
	wantTold(t, "closed", s.Changed([]int{0, 1, 8}, nil, nil))
	wantTold(t, "open, of no use", s.Changed(nil, []int{5}, shut(8, 1, 6)))
	wantNoWay(t, s, 3)
	wantTold(t, "open", s.Changed([]int{0}, []int{5}, shut(0, 1, 6)), route(6, 8), next(api.HardLeft, 8, 0, 6))
	wantState(t, s, 3, false, 8)
	// Even of what is no edge.
	s = mustNew(t, 3, 2, shut(8, 1, 6), opened(), noRoute())
	wantTold(t, "open", s.Changed(nil, []int{-1}, nil), route(5, 0, 1), next(api.Left, 0, 0, 5))
}

// P28.3

func TestNilAndZeroSession(t *testing.T) {
	for _, s := range []*Session{nil, {}} {
		left, ok := s.Left()
		if s.At() != 0 || len(left) != 0 || ok || !s.Done() {
			t.Errorf("at %d, left %v, %t, done %t", s.At(), left, ok, s.Done())
		}
		wantTold(t, "Report", s.Report(0, nil))
		wantTold(t, "Report", s.Report(-1, nil))
		wantTold(t, "Changed", s.Changed([]int{0}, []int{0}, nil))
	}
}

// P28.2, P28.4

// word is a Session as the chapter says it, with ways of 12 alone.
type word struct {
	turns       *turns.Turns
	place, node int
	has, done   bool
	way         []int
}

// hint is its hint.
func (w *word) hint() api.Msg {
	if end, _ := walk.End(w.turns, w.place); end == w.node {
		w.done = true
		return arrived()
	}
	h, _ := guide.Hint(w.turns, w.place, w.way...)
	return api.Msg{Kind: api.Next, Hint: h}
}

// ask asks.
func (w *word) ask(closed []bool) []api.Msg {
	w.way, w.has = least.Way(w.turns, w.place, w.node, closed)
	if !w.has {
		return []api.Msg{noRoute()}
	}
	weight, _ := walk.Weight(w.turns, w.way...)
	return []api.Msg{route(weight, slices.Clone(w.way)...), w.hint()}
}

// report is what it tells of a Report.
func (w *word) report(pos int, closed []bool) []api.Msg {
	if w.done {
		return nil
	}
	if pos < 0 || pos >= w.turns.Edges() {
		return []api.Msg{wrongAt(pos)}
	}
	if w.has && pos == w.place {
		return []api.Msg{w.hint()}
	}
	if len(w.way) > 0 && w.way[0] == pos {
		w.place, w.way = pos, w.way[1:]
		return []api.Msg{w.hint()}
	}
	w.place = pos
	return w.ask(closed)
}

// changed is what it tells of a Changed.
func (w *word) changed(shut, open []int, closed []bool) []api.Msg {
	if w.done {
		return nil
	}
	isOn := false
	for _, e := range w.way {
		isOn = isOn || slices.Contains(shut, e)
	}
	switch {
	case w.has && isOn:
		return w.ask(closed)
	case !w.has && len(open) > 0:
		told := w.ask(closed)
		if !w.has {
			return nil
		}
		return told
	}
	return nil
}

// wantRoutesMayBe asks of what was told whether each Route is as the chapter says, and each NoRoute is true.
func wantRoutesMayBe(t *testing.T, x *turns.Turns, at, node int, closed []bool, told []api.Msg) {
	t.Helper()
	far, is := dist.Between(x, at, node, closed)
	for _, m := range told {
		switch m.Kind {
		case api.Route:
			end, ok := walk.End(x, at, m.Edges...)
			weight, _ := walk.Weight(x, m.Edges...)
			isShut := slices.ContainsFunc(m.Edges, func(e int) bool { return closed[e] })
			if !ok || !is || end != node || weight != far || m.Weight != far || isShut {
				t.Fatalf("%+v from %d to %d, which is %d, %t", m, at, node, far, is)
			}
		case api.NoRoute:
			if is {
				t.Fatalf("no way from %d to %d, which is %d", at, node, far)
			}
		}
	}
}

func TestAsTheChapterSays(t *testing.T) {
	r := rand.New(rand.NewSource(28))
	kinds := map[int]int{}
	for range 300 {
		p := sample.Ties(r.Intn, 2+r.Intn(10), 2+r.Intn(25))
		e := engineOf(p)
		edges := len(p.Edges)
		at, node, closed := r.Intn(edges), r.Intn(len(p.Nodes)), sample.Mask(r.Intn, edges, 6)
		w := &word{turns: e.Turns, place: at, node: node}
		s, told, _ := New(e, at, node, closed)
		want := append([]api.Msg{opened()}, w.ask(closed)...)
		for range 25 {
			if !slices.EqualFunc(told, want, message.Same) {
				t.Fatalf("told %+v, want %+v, of %v", told, want, p)
			}
			left, has := s.Left()
			if s.At() != w.place || s.Done() != w.done || has != w.has || !slices.Equal(left, w.way) {
				t.Fatalf("at %d, left %v; want %d, %v, of %v", s.At(), left, w.place, w.way, p)
			}
			wantRoutesMayBe(t, e.Turns, s.At(), node, closed, told)
			for _, m := range told {
				kinds[m.Kind]++
			}
			switch pos := r.Intn(edges+2) - 1; {
			case r.Intn(3) == 0:
				was := slices.Clone(closed)
				closed[r.Intn(edges)] = r.Intn(2) == 0
				var shut, open []int
				for i := range closed {
					switch {
					case closed[i] && !was[i]:
						shut = append(shut, i)
					case !closed[i] && was[i]:
						open = append(open, i)
					}
				}
				told, want = s.Changed(shut, open, closed), w.changed(shut, open, closed)
			case len(left) > 0 && r.Intn(2) == 0:
				told, want = s.Report(left[0], closed), w.report(left[0], closed)
			default:
				told, want = s.Report(pos, closed), w.report(pos, closed)
			}
		}
	}
	for _, kind := range []int{api.Opened, api.Route, api.NoRoute, api.Next, api.Arrived, api.Wrong} {
		if kinds[kind] < 50 {
			t.Errorf("of kind %d there were %d", kind, kinds[kind])
		}
	}
}

func TestLeftGoesDownByWhatWasGone(t *testing.T) {
	r := rand.New(rand.NewSource(284))
	for range 100 {
		p := sample.Ties(r.Intn, 2+r.Intn(20), 20+r.Intn(40))
		e := engineOf(p)
		s, told, _ := New(e, r.Intn(len(p.Edges)), r.Intn(len(p.Nodes)), nil)
		if left, has := s.Left(); !has || len(left) == 0 {
			continue
		}
		far := told[1].Weight
		for !s.Done() {
			left, _ := s.Left()
			told = s.Report(left[0], nil)
			far -= p.Edges[left[0]].W
			if len(told) != 1 || told[0].Hint.Left != far {
				t.Fatalf("told %+v, want %d left", told, far)
			}
		}
		if far != 0 || told[0].Kind != api.Arrived {
			t.Fatalf("at the end %+v, and %d left", told, far)
		}
	}
}

func TestArgumentsAndAnswers(t *testing.T) {
	e := engineOf(square())
	closed := append(shut(8), true, true)
	s, told, _ := New(e, 3, 2, closed[:9])
	left, _ := s.Left()
	sample.Overwrite(told[1].Edges, 77)
	sample.Overwrite(told, api.Msg{Kind: 77})
	sample.Overwrite(left, 77)
	wantState(t, s, 3, false, 0, 1)
	shuts, opens := []int{1, 99}, []int{8, 99}
	told = s.Changed(shuts[:1], opens[:1], shut(1))
	sample.Overwrite(told[0].Edges, 77)
	wantState(t, s, 3, false, 8)
	if !slices.Equal(closed, append(shut(8), true, true)) || !slices.Equal(shuts, []int{1, 99}) || !slices.Equal(opens, []int{8, 99}) {
		t.Errorf("an argument was changed: %v, %v, %v", closed, shuts, opens)
	}
	// What is closed is not kept.
	sample.Overwrite(closed, true)
	wantTold(t, "back", s.Report(7, nil), route(4, 6), next(api.Right, 6, 0, 4))
	told = s.Report(3, nil)
	sample.Overwrite(told[0].Edges, 77)
	wantState(t, s, 3, false, 0, 1)
	// Two of one Engine have nothing in common.
	u, _, _ := New(e, 3, 2, nil)
	u.Report(0, nil)
	wantState(t, s, 3, false, 0, 1)
}
