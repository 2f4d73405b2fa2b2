package world

import (
	"bytes"
	"fmt"
	"math"
	"math/rand"
	"reflect"
	"slices"
	"testing"

	"milepost/api"
	"milepost/gram"
	"milepost/message"
	"milepost/sample"
)

// square is four nodes round, both ways: edges 0 to 3 the one way round, 4 to 7 the other one; 8 goes across; node 4 is alone.
func square() api.Graph {
	return api.Graph{
		Nodes: []api.Node{{X: 0, Y: 0}, {X: 10, Y: 0}, {X: 10, Y: 10}, {X: 0, Y: 10}, {X: 5, Y: 20}},
		Edges: []api.Edge{{From: 0, To: 1, W: 2}, {From: 1, To: 2, W: 3}, {From: 2, To: 3, W: 4}, {From: 3, To: 0, W: 5}, {From: 1, To: 0, W: 2}, {From: 2, To: 1, W: 3}, {From: 3, To: 2, W: 4}, {From: 0, To: 3, W: 5}, {From: 0, To: 2, W: 6}},
	}
}

// calm is a Config by which nothing is sent again, and nobody expires, for a thousand ticks.
func calm() api.Config {
	return api.Config{Sessions: 16, Window: 16, Retry: 20, Base: 1000, Cap: 1000, Idle: 1000}
}

// hasty is a Config by which all is sent again at each tick.
func hasty() api.Config {
	return api.Config{Sessions: 16, Window: 16, Retry: 20, Base: 1, Cap: 1, Idle: 1000}
}

// mustNew is the World of the square.
func mustNew(t *testing.T, c api.Config, drivers int) *World {
	t.Helper()
	w, e := New(square(), c, drivers)
	if w == nil || e != api.OK {
		t.Fatalf("New(%v, %d): %v, %d", c, drivers, w, e)
	}
	return w
}

// data is a datagram with a message.
func data(conn, seq int, m api.Msg) []byte {
	body, _ := message.Encode(m)
	b, e := gram.Encode(api.Gram{Conn: conn, Kind: api.Data, Seq: seq, Body: body})
	if e != api.OK {
		panic(fmt.Sprint("no datagram: ", m))
	}
	return b
}

// Events in short.
func deliver(n int) api.Event     { return api.Event{Kind: api.Deliver, N: n} }
func drop(n int) api.Event        { return api.Event{Kind: api.Drop, N: n} }
func double(n int) api.Event      { return api.Event{Kind: api.Double, N: n} }
func tick() api.Event             { return api.Event{Kind: api.Tick} }
func shut(edge, m int) api.Event  { return api.Event{Kind: api.Close, N: edge, M: m} }
func reopen(edge int) api.Event   { return api.Event{Kind: api.Reopen, N: edge} }
func move(d, edge int) api.Event  { return api.Event{Kind: api.Move, D: d, N: edge} }
func follow(d int) api.Event      { return api.Event{Kind: api.Follow, D: d} }
func stop(d int) api.Event        { return api.Event{Kind: api.Stop, D: d} }
func start(d, m, n int) api.Event { return api.Event{Kind: api.Start, D: d, M: m, N: n} }
func noise(d int, raw ...byte) api.Event {
	return api.Event{Kind: api.Noise, D: d, Raw: raw}
}

// said is a message in short.
func said(m api.Msg) string {
	switch m.Kind {
	case api.Open:
		return fmt.Sprint("Open", m.Pos, ">", m.Dest)
	case api.Report:
		return fmt.Sprint("Report", m.Pos)
	case api.Route:
		return fmt.Sprint("Route", m.Edges)
	case api.Next:
		return fmt.Sprint("Next", m.Hint.Edge)
	}
	return []string{"?", "", "", "Bye", "Opened", "", "NoRoute", "", "Arrived", "Wrong"}[m.Kind]
}

// way is U of what goes up, D of what goes down.
func way(isUp bool) string {
	if isUp {
		return "U"
	}
	return "D"
}

// bag is what is under way, in short: the driver, which way, connection; of a Data Seq, Ack and the message.
func bag(w *World) []string {
	var out []string
	for _, u := range w.Bag() {
		g, e := gram.Decode(u.Data)
		m, _ := message.Decode(g.Body)
		s := fmt.Sprint(u.D, way(u.Up), g.Conn, " ")
		switch {
		case e != api.OK:
			s += "?"
		case g.Kind == api.Data:
			s += fmt.Sprint(g.Seq, "/", g.Ack, " ", said(m))
		case g.Kind == api.Ack:
			s += fmt.Sprint("Ack ", g.Ack)
		default:
			s += fmt.Sprint("Reset ", g.Code)
		}
		out = append(out, s)
	}
	return out
}

// wantBag asks what is under way.
func wantBag(t *testing.T, what string, w *World, want ...string) {
	t.Helper()
	if got := bag(w); !slices.Equal(got, want) {
		t.Errorf("%s: under way\n got %q\nwant %q", what, got, want)
	}
}

// wantHeard does events, and asks what is heard: the driver, where, the connection, and the message in short.
func wantHeard(t *testing.T, w *World, events []api.Event, want ...string) {
	t.Helper()
	var got []string
	for _, h := range w.Do(events...) {
		got = append(got, fmt.Sprint(h.D, way(h.Up), h.Conn, " ", said(h.Msg)))
	}
	if !slices.Equal(got, want) {
		t.Errorf("Do(%v): heard\n got %q\nwant %q", events, got, want)
	}
}

// wantNothing does events, and asks that nothing is heard, and nothing changes.
func wantNothing(t *testing.T, w *World, events ...api.Event) {
	t.Helper()
	was, now, shuts := w.Bag(), w.Server().Now(), w.Server().Closed()
	wantHeard(t, w, events)
	if !reflect.DeepEqual(w.Bag(), was) || w.Server().Now() != now || !slices.Equal(w.Server().Closed(), shuts) {
		t.Errorf("Do(%v) changed something: %q", events, bag(w))
	}
}

// many is an event so many times.
func many(n int, e api.Event) []api.Event { return slices.Repeat([]api.Event{e}, n) }

func ExampleWorld_Do() {
	w, _ := New(api.Graph{Nodes: make([]api.Node, 1), Edges: []api.Edge{{W: 1}}}, calm(), 1)
	for _, h := range w.Do(start(0, 0, 0), deliver(0)) {
		fmt.Println(h.D, h.Conn, h.Up, h.Msg.Kind == api.Open)
	}
	// Output: 0 1 true true
}

// P32.1

func TestNewRefuses(t *testing.T) {
	refused := func(what string, g api.Graph, c api.Config, drivers int) {
		t.Helper()
		if w, e := New(g, c, drivers); w != nil || e != api.ErrArg {
			t.Errorf("%s: %v, %d", what, w, e)
		}
	}
	for _, n := range []int{math.MinInt, -1, 0, 17, math.MaxInt} {
		refused(fmt.Sprint(n, " drivers"), square(), calm(), n)
	}
	refused("no graph", api.Graph{}, calm(), 1)
	refused("513 edges", sample.Loops(1, 513, 0), calm(), 1)
	refused("no Config", square(), api.Config{}, 1)
	for what, spoil := range map[string]func(c *api.Config){
		"Sessions": func(c *api.Config) { c.Sessions = 17 },
		"Window":   func(c *api.Config) { c.Window = 17 },
		"Retry":    func(c *api.Config) { c.Retry = 21 },
		"Base":     func(c *api.Config) { c.Base = 0 },
		"Cap":      func(c *api.Config) { c.Cap = 999 },
		"Idle":     func(c *api.Config) { c.Idle = 1001 },
	} {
		c := calm()
		spoil(&c)
		refused(what, square(), c, 1)
	}
}

func TestNew(t *testing.T) {
	for _, n := range []int{1, 2, 15, 16} {
		w := mustNew(t, calm(), n)
		if w.Server() == nil || w.Server().Now() != 0 || len(w.Server().Live())+len(w.Server().Closed()) != 0 {
			t.Errorf("of %d: server %v", n, w.Server())
		}
		for d := range n {
			x := w.Driver(d)
			if x == nil || x != w.Driver(d) || x.Conn() != 0 || x.Live() || x.At() != -1 {
				t.Errorf("driver %d of %d: %v", d, n, x)
			}
		}
		for _, d := range []int{math.MinInt, -1, n, n + 1, math.MaxInt} {
			if w.Driver(d) != nil {
				t.Errorf("driver %d of %d: %v", d, n, w.Driver(d))
			}
		}
		wantBag(t, "new", w)
	}
	w := mustNew(t, calm(), 2)
	if w.Driver(0) == w.Driver(1) || w.Server() != w.Server() {
		t.Error("not one each")
	}
}

// P32.2

func TestDeliverUpAndDown(t *testing.T) {
	w := mustNew(t, calm(), 2)
	wantHeard(t, w, []api.Event{start(1, 3, 2)})
	wantBag(t, "Start", w, "1U1 0/0 Open3>2")
	wantHeard(t, w, []api.Event{deliver(0)}, "1U1 Open3>2")
	wantBag(t, "Deliver", w, "1D1 Ack 1", "1D1 0/1 Opened", "1D1 1/1 Route[0 1]", "1D1 2/1 Next0")
	wantHeard(t, w, []api.Event{deliver(3)})
	wantBag(t, "Deliver of the last one", w, "1D1 Ack 1", "1D1 0/1 Opened", "1D1 1/1 Route[0 1]", "1U1 Ack 0")
	wantHeard(t, w, []api.Event{deliver(1)}, "1D1 Opened")
	wantBag(t, "Deliver of one between", w, "1D1 Ack 1", "1D1 1/1 Route[0 1]", "1U1 Ack 0", "1U1 Ack 1")
	wantHeard(t, w, []api.Event{deliver(1)}, "1D1 Route[0 1]", "1D1 Next0")
	wantHeard(t, w, []api.Event{deliver(0), follow(1)})
	wantBag(t, "Follow", w, "1U1 Ack 0", "1U1 Ack 1", "1U1 Ack 3", "1U1 1/3 Report0")
	// In order, each event with what is heard by it.
	wantHeard(t, w, append(many(5, deliver(-1)), start(0, 0, 1), deliver(-1)), "1U1 Report0", "1D1 Next1", "0U1 Open0>1")
}

func TestDropAndDouble(t *testing.T) {
	w := mustNew(t, calm(), 3)
	w.Do(start(0, 0, 2), start(1, 1, 2), start(2, 2, 2))
	a, b, c := "0U1 0/0 Open0>2", "1U1 0/0 Open1>2", "2U1 0/0 Open2>2"
	wantBag(t, "three Starts", w, a, b, c)
	wantHeard(t, w, []api.Event{double(1)})
	wantBag(t, "Double", w, a, b, c, b)
	wantHeard(t, w, []api.Event{drop(1)})
	wantBag(t, "Drop", w, a, c, b)
	wantHeard(t, w, []api.Event{drop(2)})
	wantBag(t, "Drop of the last one", w, a, c)
	wantHeard(t, w, []api.Event{drop(0)})
	wantBag(t, "Drop of the first one", w, c)
	wantHeard(t, w, []api.Event{double(0), deliver(1), deliver(0)}, "2U1 Open2>2")
	wantHeard(t, w, []api.Event{drop(0), drop(0), drop(0), drop(0), drop(0)})
	wantBag(t, "all gone", w)
}

func TestWhichOneByModulo(t *testing.T) {
	for _, n := range []int{math.MinInt, math.MinInt + 1, -7, -4, -3, -2, -1, 0, 1, 2, 3, 4, 65535, math.MaxInt} {
		w := mustNew(t, calm(), 3)
		w.Do(start(0, 0, 2), start(1, 1, 2), start(2, 2, 2))
		// From 0 on, of an n below 0 too.
		at := n % 3
		if at < 0 {
			at += 3
		}
		all := bag(w)
		w.Do(double(n))
		wantBag(t, fmt.Sprint("Double of ", n), w, append(slices.Clone(all), all[at])...)
		w.Do(drop(3), drop(n))
		wantBag(t, fmt.Sprint("Drop of ", n), w, slices.Delete(slices.Clone(all), at, at+1)...)
		w = mustNew(t, calm(), 3)
		w.Do(start(0, 0, 2), start(1, 1, 2), start(2, 2, 2))
		wantHeard(t, w, []api.Event{deliver(n)}, fmt.Sprint(at, "U1 Open", at, ">2"))
	}
}

func TestNothingUnderWay(t *testing.T) {
	w := mustNew(t, calm(), 1)
	for _, n := range []int{math.MinInt, -1, 0, 1, math.MaxInt} {
		wantNothing(t, w, deliver(n), drop(n), double(n))
	}
}

func TestTickGoesByForAll(t *testing.T) {
	w := mustNew(t, hasty(), 3)
	w.Do(start(2, 3, 2), deliver(0))
	w.Do(many(4, drop(0))...)
	w.Do(start(1, 0, 2), start(0, 1, 2), drop(0), drop(0))
	wantBag(t, "all lost", w)
	// The server's first, then the drivers', all with Now as it is then: each is due at 1.
	wantHeard(t, w, []api.Event{tick()})
	wantBag(t, "Tick", w, "2D1 0/1 Opened", "2D1 1/1 Route[0 1]", "2D1 2/1 Next0", "0U1 0/0 Open1>2", "1U1 0/0 Open0>2", "2U1 0/0 Open3>2")
	if w.Server().Now() != 1 {
		t.Errorf("Now() = %d", w.Server().Now())
	}
	w.Do(tick(), tick())
	if w.Server().Now() != 3 || len(w.Bag()) != 18 {
		t.Errorf("Now() = %d, %d under way", w.Server().Now(), len(w.Bag()))
	}
}

// What is sent at a Start, a Report, when something comes, is due by the server's Now.
func TestAllGoByTheServersNow(t *testing.T) {
	c := hasty()
	c.Base, c.Cap = 3, 3
	// dueIn lets what is under way be lost, and tells in how many ticks something goes out again.
	dueIn := func(w *World) int {
		w.Do(many(len(w.Bag()), drop(0))...)
		for n := range 9 {
			if len(w.Bag()) > 0 {
				return n
			}
			w.Do(tick())
		}
		return 9
	}
	// All that was said ahead came, and its Acks, too.
	ahead := append([]api.Event{start(0, 3, 2)}, append(many(8, deliver(0)), tick())...)
	for name, what := range map[string][]api.Event{
		"Start":  {start(0, 3, 2)},
		"Move":   append(slices.Clone(ahead), move(0, 2)),
		"Follow": append(slices.Clone(ahead), follow(0)),
		"Stop":   append(slices.Clone(ahead), stop(0)),
	} {
		w := mustNew(t, c, 1)
		w.Do(many(50, tick())...)
		w.Do(what...)
		wasOut := len(w.Bag()) == 1
		if got := dueIn(w); !wasOut || got != 3 {
			t.Errorf("%s: it is out: %t, due in %d, want 3", name, wasOut, got)
		}
	}
	// An Ack makes room: what it lets go out is sent at Now.
	c.Window = 1
	w := mustNew(t, c, 1)
	w.Do(many(50, tick())...)
	w.Do(start(0, 3, 2), move(0, 2), deliver(0), tick(), tick(), deliver(0))
	wantBag(t, "room", w, "0D1 0/1 Opened", "0U1 1/0 Report2")
	w.Do(tick())
	// What the server said at 50 is due at 53, what the driver said at 52 is not.
	wantBag(t, "at 53", w, "0D1 0/1 Opened", "0U1 1/0 Report2", "0D1 0/1 Opened")
	w.Do(tick(), tick())
	wantBag(t, "at 55", w, "0D1 0/1 Opened", "0U1 1/0 Report2", "0D1 0/1 Opened", "0U1 1/0 Report2")
}

func TestCloseAndReopen(t *testing.T) {
	w := mustNew(t, calm(), 1)
	w.Do(start(0, 3, 2), deliver(0))
	w.Do(many(4, drop(0))...)
	wantNothing(t, w, shut(9, 1), shut(-1, 1), shut(1, 0), shut(1, -1), shut(1, 1<<20+1), reopen(9), reopen(-1), reopen(math.MinInt), shut(math.MaxInt, 1))
	wantNothing(t, w, reopen(1))
	w.Do(tick())
	wantHeard(t, w, []api.Event{shut(1, 7)})
	wantBag(t, "Close", w, "0D1 3/1 Route[8]", "0D1 4/1 Next8")
	w.Do(shut(4, 1<<20), shut(8, 2), shut(6, 1))
	if got := w.Server().Closed(); !slices.Equal(got, []api.Shut{{Edge: 1, Until: 8}, {Edge: 4, Until: 1<<20 + 1}, {Edge: 6, Until: 2}, {Edge: 8, Until: 3}}) {
		t.Errorf("Closed() = %v", got)
	}
	// What was closed already tells nothing.
	w.Do(shut(4, 1<<20))
	wantBag(t, "three more", w, "0D1 3/1 Route[8]", "0D1 4/1 Next8", "0D1 5/1 Route[7 6]", "0D1 6/1 Next7", "0D1 7/1 NoRoute")
	w.Do(many(5, drop(0))...)
	wantHeard(t, w, []api.Event{reopen(1)})
	wantBag(t, "Reopen", w, "0D1 8/1 Route[0 1]", "0D1 9/1 Next0")
	w.Do(drop(0), drop(0), shut(0, 9))
	wantBag(t, "Close", w, "0D1 10/1 NoRoute")
	w.Do(drop(0), tick())
	wantBag(t, "edge 6 is open at 2", w, "0D1 11/1 Route[7 6]", "0D1 12/1 Next7")
	w.Do(drop(0), drop(0))
	wantHeard(t, w, []api.Event{reopen(0)})
	wantBag(t, "Reopen, but it has a way", w)
	if got := w.Server().Closed(); !slices.Equal(got, []api.Shut{{Edge: 4, Until: 1<<20 + 1}, {Edge: 8, Until: 3}}) {
		t.Errorf("Closed() = %v", got)
	}
}

func TestStartMoveFollowStop(t *testing.T) {
	w := mustNew(t, calm(), 2)
	// What they refuse does nothing.
	wantNothing(t, w, follow(0), stop(0), move(0, 1), start(0, -1, 0), start(0, 0, -1), start(0, 65536, 0), start(0, 0, 65536))
	w.Do(start(0, 3, 2))
	wantNothing(t, w, follow(0), move(0, -1), move(0, 65536))
	w.Do(start(0, 65535, 65534), move(0, 7), stop(0))
	wantBag(t, "one driver", w, "0U1 0/0 Open3>2", "0U2 0/0 Open65535>65534", "0U2 1/0 Report7", "0U2 2/0 Bye")
	if d := w.Driver(0); d.Conn() != 2 || d.At() != 7 || w.Driver(1).Conn() != 0 {
		t.Errorf("Conn() = %d, At() = %d; the other one's Conn() = %d", d.Conn(), d.At(), w.Driver(1).Conn())
	}
	// Each connection by its number.
	w.Do(start(1, 1, 2), deliver(-1), start(1, 1, 2))
	wantHeard(t, w, []api.Event{deliver(-1), deliver(-3), deliver(-3), deliver(-3)}, "1U2 Open1>2", "1D2 Opened", "1D2 Route[]", "1D2 Arrived")
	w.Do(many(len(w.Bag())-4, drop(4))...)
	// A Reset tells nothing, but the driver lives no more.
	wantHeard(t, w, []api.Event{deliver(1), deliver(3)})
	if d := w.Driver(0); d.Live() || d.Why() != api.Refused {
		t.Errorf("Live() = %t, Why() = %d", d.Live(), d.Why())
	}
	wantNothing(t, w, move(0, 7), stop(0))
}

func TestFollowGoesOnByTheWay(t *testing.T) {
	w := mustNew(t, calm(), 1)
	w.Do(start(0, 3, 2), deliver(0), deliver(0), deliver(0), deliver(0))
	w.Do(follow(0), follow(0))
	// The way is at its end.
	wantNothing(t, w, follow(0))
	wantBag(t, "two Follows", w, "0D1 2/1 Next0", "0U1 Ack 1", "0U1 Ack 2", "0U1 1/2 Report0", "0U1 2/2 Report1")
	wantHeard(t, w, append(many(5, deliver(0)), deliver(-1), deliver(-1)), "0D1 Next0", "0U1 Report0", "0U1 Report1")
	wantHeard(t, w, []api.Event{stop(0), deliver(-1)}, "0U1 Bye")
	if got := w.Server().Live(); len(got) != 0 {
		t.Errorf("Live() = %v", got)
	}
}

func TestNoise(t *testing.T) {
	w := mustNew(t, calm(), 2)
	hello := data(9, 0, api.Msg{Kind: api.Open, Pos: 3, Dest: 2})
	wantNothing(t, w, noise(0), noise(0, 1, 2, 3), noise(2, hello...), noise(-1, hello...), noise(16, hello...), noise(math.MinInt, hello...))
	// It comes at once, and nothing of it is under way but what it is answered.
	wantHeard(t, w, []api.Event{noise(1, hello...)}, "1U9 Open3>2")
	wantBag(t, "an Open", w, "1D9 Ack 1", "1D9 0/1 Opened", "1D9 1/1 Route[0 1]", "1D9 2/1 Next0")
	// The driver has no such connection.
	wantHeard(t, w, many(4, deliver(0)))
	wantHeard(t, w, []api.Event{noise(0, data(9, 1, api.Msg{Kind: api.Report})...), noise(1, data(9, 1, api.Msg{Kind: api.Report})...)}, "1U9 Report0")
	wantBag(t, "two Reports", w, "0D9 Reset 2", "1D9 Ack 2", "1D9 3/2 Next1")
}

func TestNoiseIsNeitherKeptNorChanged(t *testing.T) {
	w := mustNew(t, calm(), 1)
	raw := make([]byte, 0, 99)
	raw = append(raw, data(9, 1, api.Msg{Kind: api.Report, Pos: 3})...)
	w.Do(noise(0, data(9, 0, api.Msg{Kind: api.Open, Pos: 3, Dest: 2})...))
	hello, was := bytes.Clone(raw[:cap(raw)]), bag(w)
	w.Do(noise(0, raw...))
	if !bytes.Equal(raw[:cap(raw)], hello) {
		t.Error("it was changed")
	}
	sample.Overwrite(raw, 255)
	wantBag(t, "overwritten", w, append(was, "0D9 Ack 2", "0D9 3/2 Next0")...)
}

func TestEventsThatAreNone(t *testing.T) {
	w := mustNew(t, calm(), 2)
	w.Do(start(0, 3, 2), shut(1, 9))
	for _, kind := range []int{math.MinInt, -1, 0, 12, 13, math.MaxInt} {
		wantNothing(t, w, api.Event{Kind: kind}, api.Event{Kind: kind, D: 1, N: 1, M: 1, Raw: []byte{1}})
	}
	for _, d := range []int{math.MinInt, -1, 2, 16, math.MaxInt} {
		wantNothing(t, w, start(d, 3, 2), move(d, 0), follow(d), stop(d), noise(d, data(9, 0, api.Msg{Kind: api.Open})...))
	}
}

// Where D does not count, it may be anything.
func TestDThatDoesNotCount(t *testing.T) {
	for _, d := range []int{math.MinInt, -1, 1, 2, 99, math.MaxInt} {
		w := mustNew(t, calm(), 1)
		w.Do(start(0, 3, 2))
		w.Do(api.Event{Kind: api.Double, D: d}, api.Event{Kind: api.Drop, D: d})
		wantHeard(t, w, []api.Event{{Kind: api.Deliver, D: d}}, "0U1 Open3>2")
		w.Do(api.Event{Kind: api.Close, D: d, N: 1, M: 9}, api.Event{Kind: api.Close, D: d, N: 2, M: 9}, api.Event{Kind: api.Reopen, D: d, N: 2}, api.Event{Kind: api.Tick, D: d})
		if s := w.Server(); s.Now() != 1 || !slices.Equal(s.Closed(), []api.Shut{{Edge: 1, Until: 9}}) {
			t.Errorf("D %d: Now() = %d, Closed() = %v", d, s.Now(), s.Closed())
		}
	}
}

// What shows the whole.

func TestANewRouteComesUnasked(t *testing.T) {
	w := mustNew(t, calm(), 1)
	w.Do(start(0, 3, 2))
	w.Do(many(8, deliver(0))...)
	wantHeard(t, w, append([]api.Event{shut(1, 9)}, many(2, deliver(0))...), "0D1 Route[8]", "0D1 Next8")
	if way, ok := w.Driver(0).Way(); !ok || !slices.Equal(way, []int{8}) {
		t.Errorf("Way() = %v, %t", way, ok)
	}
}

func TestDoubledAndTurnedRound(t *testing.T) {
	// drive goes the whole way, and each time lets all come, be it as it is under way or not.
	drive := func(all func(w *World) []api.Heard) (heard []api.Heard) {
		w := mustNew(t, calm(), 1)
		for _, e := range []api.Event{start(0, 3, 2), follow(0), move(0, 7), shut(6, 9), tick(), reopen(6), follow(0), follow(0), stop(0)} {
			heard = append(heard, w.Do(e)...)
			for len(w.Bag()) > 0 {
				heard = append(heard, all(w)...)
			}
		}
		return heard
	}
	plain := drive(func(w *World) []api.Heard { return w.Do(deliver(0)) })
	turned := drive(func(w *World) (heard []api.Heard) {
		n := len(w.Bag())
		for i := range n {
			w.Do(double(i))
		}
		// What is sent meanwhile stands behind them.
		for i := range 2 * n {
			heard = append(heard, w.Do(deliver(2*n-1-i))...)
		}
		return heard
	})
	if !reflect.DeepEqual(plain, turned) || len(plain) < 12 {
		t.Errorf("heard\n got %+v\nwant %+v", turned, plain)
	}
}

func TestAThousandBytesOfNoise(t *testing.T) {
	r := rand.New(rand.NewSource(322))
	w := mustNew(t, calm(), 1)
	w.Do(start(0, 3, 2), deliver(0))
	for range 50 {
		raw := make([]byte, 1000)
		r.Read(raw)
		wantNothing(t, w, noise(0, raw...))
		// Even if it begins as a datagram does.
		copy(raw, data(1, 1, api.Msg{Kind: api.Report}))
		wantNothing(t, w, noise(0, raw...))
	}
}

// P32.3

// some is events of all kinds, of driver d and others.
func some(r *rand.Rand, n int) []api.Event {
	var all []api.Event
	for range n {
		e := api.Event{Kind: []int{0, 1, 1, 1, 1, 1, 2, 3, 4, 4, 5, 6, 7, 8, 9, 9, 10, 11}[r.Intn(18)], D: r.Intn(4), N: r.Intn(10), M: r.Intn(10)}
		if e.Kind == api.Noise {
			e.Raw = data(1+r.Intn(3), r.Intn(3), api.Msg{Kind: 1 + r.Intn(3), Pos: r.Intn(10), Dest: r.Intn(5)})
		}
		all = append(all, e)
	}
	return all
}

func TestTheSameEventsMakeTheSame(t *testing.T) {
	r := rand.New(rand.NewSource(323))
	heard := 0
	for range 30 {
		c := api.Config{Sessions: 1 + r.Intn(3), Window: 1 + r.Intn(4), Retry: r.Intn(5), Base: 1 + r.Intn(3), Cap: 4, Idle: 5 + r.Intn(50)}
		a, b := mustNew(t, c, 3), mustNew(t, c, 3)
		events := some(r, 300)
		var one []api.Heard
		for _, e := range events {
			one = append(one, a.Do(e)...)
		}
		// At once, and one by one.
		if all := b.Do(events...); !reflect.DeepEqual(all, one) || !reflect.DeepEqual(a.Bag(), b.Bag()) {
			t.Fatalf("heard %v, and %v", all, one)
		}
		heard += len(one)
	}
	if heard < 200 {
		t.Errorf("but %d were heard", heard)
	}
}

func TestNewMemory(t *testing.T) {
	g := square()
	w, _ := New(g, calm(), 1)
	sample.OverwriteGraph(g)
	w.Do(start(0, 3, 2))
	w.Do(double(0))
	all := bag(w)
	first := w.Bag()
	sample.Overwrite(first[0].Data, 99)
	wantBag(t, "bytes overwritten", w, all...)
	sample.Overwrite(first, Under{})
	wantBag(t, "bag overwritten", w, all...)
	w.Do(deliver(0), drop(0), deliver(0), deliver(0))
	heard := w.Do(deliver(0), double(-1), deliver(0))
	if len(heard) != 2 || !slices.Equal(heard[0].Msg.Edges, []int{0, 1}) {
		t.Fatalf("heard %+v", heard)
	}
	sample.Overwrite(heard[0].Msg.Edges, 99)
	if way, _ := w.Driver(0).Way(); !slices.Equal(way, []int{0, 1}) {
		t.Errorf("Way() = %v", way)
	}
}

func TestNilAndZeroWorld(t *testing.T) {
	r := rand.New(rand.NewSource(321))
	for _, w := range []*World{nil, {}} {
		if got := w.Do(some(r, 200)...); len(got) != 0 || len(w.Bag()) != 0 {
			t.Errorf("heard %v, under way %v", got, w.Bag())
		}
		if w.Server() != nil || w.Driver(0) != nil || w.Driver(-1) != nil {
			t.Errorf("Server() = %v, Driver(0) = %v", w.Server(), w.Driver(0))
		}
	}
	if got := mustNew(t, calm(), 1).Do(); len(got) != 0 {
		t.Errorf("no events: heard %v", got)
	}
}
