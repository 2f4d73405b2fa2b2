package fair

import (
	"fmt"
	"math"
	"math/rand"
	"slices"
	"testing"

	"milepost/api"
	"milepost/engine"
	"milepost/gram"
	"milepost/message"
	"milepost/sample"
	"milepost/world"
)

// square is four nodes round, both ways: edges 0 to 3 the one way round, 4 to 7 the other one; 8 goes across; node 4 is alone.
func square() api.Graph {
	return api.Graph{
		Nodes: []api.Node{{X: 0, Y: 0}, {X: 10, Y: 0}, {X: 10, Y: 10}, {X: 0, Y: 10}, {X: 5, Y: 20}},
		Edges: []api.Edge{{From: 0, To: 1, W: 2}, {From: 1, To: 2, W: 3}, {From: 2, To: 3, W: 4}, {From: 3, To: 0, W: 5}, {From: 1, To: 0, W: 2}, {From: 2, To: 1, W: 3}, {From: 3, To: 2, W: 4}, {From: 0, To: 3, W: 5}, {From: 0, To: 2, W: 6}},
	}
}

// config is one of up to 16 sessions, by which all is sent again each so many ticks.
func config(base int) api.Config {
	return api.Config{Sessions: 16, Window: 16, Retry: 20, Base: base, Cap: base, Idle: 1000}
}

// mustNew is a World of the square.
func mustNew(t *testing.T, c api.Config, drivers int) *world.World {
	t.Helper()
	w, e := world.New(square(), c, drivers)
	if e != api.OK {
		t.Fatalf("New: %d", e)
	}
	return w
}

// start is the event of a driver that asks for the way from an edge to a node.
func start(d, at, node int) api.Event { return api.Event{Kind: api.Start, D: d, M: at, N: node} }

// double is that of the n-th that is under way.
func double(n int) api.Event { return api.Event{Kind: api.Double, N: n} }

// said is a message's kind, by name.
func said(kind int) string {
	return []string{"?", "Open", "Report", "Bye", "Opened", "Route", "NoRoute", "Next", "Arrived", "Wrong"}[kind]
}

// wantHeard plays rounds, and asks what is heard: the driver, at which connection, and which kind; with < at the server.
func wantHeard(t *testing.T, w *world.World, rounds, lose int, want ...string) {
	t.Helper()
	var got []string
	for _, h := range Run(w, rounds, lose) {
		sign := ">"
		if h.Up {
			sign = "<"
		}
		got = append(got, fmt.Sprint(h.D, sign, h.Conn, said(h.Msg.Kind)))
	}
	if !slices.Equal(got, want) {
		t.Errorf("%d rounds, lose %d: heard\n got %q\nwant %q", rounds, lose, got, want)
	}
}

// wantBag asks what is under way: the driver, with < up to the server, the connection; of a Data Seq and which message.
func wantBag(t *testing.T, what string, w *world.World, want ...string) {
	t.Helper()
	var got []string
	for _, u := range w.Bag() {
		g, _ := gram.Decode(u.Data)
		m, _ := message.Decode(g.Body)
		sign := ">"
		if u.Up {
			sign = "<"
		}
		s := fmt.Sprint(u.D, sign, g.Conn)
		switch g.Kind {
		case api.Data:
			s += fmt.Sprint(" ", g.Seq, said(m.Kind))
		case api.Ack:
			s += fmt.Sprint(" Ack", g.Ack)
		default:
			s += " Reset"
		}
		got = append(got, s)
	}
	if !slices.Equal(got, want) {
		t.Errorf("%s: under way\n got %q\nwant %q", what, got, want)
	}
}

func ExampleSure() {
	c := api.Config{Sessions: 1, Window: 1, Retry: 0, Base: 3, Cap: 5, Idle: 12}
	fmt.Println(Sure(c, 0))
	c.Idle = 13
	fmt.Println(Sure(c, 0))
	// Output:
	// false
	// true
}

// P35.1

func TestNoRounds(t *testing.T) {
	w := mustNew(t, config(9), 1)
	w.Do(start(0, 3, 2))
	for _, n := range []int{math.MinInt, -1, 0} {
		wantHeard(t, w, n, 0)
		wantHeard(t, nil, n, 0)
	}
	wantBag(t, "none", w, "0<1 0Open")
	for _, n := range []int{1, 2, 99, math.MaxInt} {
		wantHeard(t, nil, n, 0)
		wantHeard(t, nil, n, 9)
	}
	if w.Server().Now() != 0 {
		t.Errorf("Now() = %d", w.Server().Now())
	}
	wantHeard(t, &world.World{}, 5, 1)
}

func TestRoundsOneByOne(t *testing.T) {
	w := mustNew(t, config(9), 2)
	w.Do(start(1, 3, 2), start(0, 0, 1))
	// In order; what is sent in a round comes in the next one.
	wantHeard(t, w, 1, 0, "1<1Open", "0<1Open")
	wantBag(t, "behind one", w, "1>1 Ack1", "1>1 0Opened", "1>1 1Route", "1>1 2Next", "0>1 Ack1", "0>1 0Opened", "0>1 1Route", "0>1 2Arrived")
	wantHeard(t, w, 1, 0, "1>1Opened", "1>1Route", "1>1Next", "0>1Opened", "0>1Route", "0>1Arrived")
	// Who heard a Next follows, behind all that comes.
	wantBag(t, "behind two", w, "1<1 Ack1", "1<1 Ack2", "1<1 Ack3", "0<1 Ack1", "0<1 Ack2", "0<1 Ack3", "1<1 1Report")
	wantHeard(t, w, 1, 0, "1<1Report")
	wantHeard(t, w, 1, 0, "1>1Next")
	wantHeard(t, w, 1, 0, "1<1Report")
	wantHeard(t, w, 1, 0, "1>1Arrived")
	wantHeard(t, w, 2, 0)
	wantBag(t, "at the end", w)
	if w.Server().Now() != 8 || w.Driver(1).At() != 1 || w.Driver(0).At() != 0 {
		t.Errorf("Now() = %d, At() = %d, %d", w.Server().Now(), w.Driver(1).At(), w.Driver(0).At())
	}
	w.Do(start(0, 3, 2))
	wantHeard(t, w, 9, 0, "0<2Open", "0>2Opened", "0>2Route", "0>2Next", "0<2Report", "0>2Next", "0<2Report", "0>2Arrived")
}

func TestFollowRisingAndOnce(t *testing.T) {
	w := mustNew(t, config(900), 3)
	w.Do(start(2, 3, 2), start(0, 3, 2), start(1, 3, 2))
	Run(w, 1, 0)
	// Two Nexts for one of them: it reports its place.
	w.Do(api.Event{Kind: api.Move, D: 2, N: 3}, api.Event{Kind: api.Deliver, N: -1})
	Run(w, 1, 0)
	var got []string
	for _, u := range w.Bag() {
		g, _ := gram.Decode(u.Data)
		if m, _ := message.Decode(g.Body); m.Kind == api.Report {
			got = append(got, fmt.Sprint(u.D, " ", m.Pos))
		}
	}
	if want := []string{"0 0", "1 0", "2 0"}; !slices.Equal(got, want) {
		t.Errorf("Reports under way %q, want %q", got, want)
	}
}

// Only who heard a Next in this very round follows, be there a way or not.
func TestWhoHeardNoNextStays(t *testing.T) {
	w := mustNew(t, config(900), 2)
	w.Do(start(0, 3, 2))
	Run(w, 1, 0)
	// The Next is lost: the Route alone is heard.
	w.Do(api.Event{Kind: api.Drop, N: 3})
	wantHeard(t, w, 5, 0, "0>1Opened", "0>1Route")
	if w.Driver(0).At() != 3 {
		t.Errorf("At() = %d", w.Driver(0).At())
	}
	// A Next of another one is none of its own; one ahead of this Run is none, too.
	w.Do(start(1, 3, 2))
	Run(w, 1, 0)
	for range 4 {
		w.Do(api.Event{Kind: api.Deliver})
	}
	wantHeard(t, w, 5, 0)
	if w.Driver(0).At() != 3 || w.Driver(1).At() != 3 {
		t.Errorf("At() = %d, %d", w.Driver(0).At(), w.Driver(1).At())
	}
	// One in an earlier round of the same Run is none of this one.
	w = mustNew(t, config(900), 2)
	w.Do(start(0, 3, 2))
	wantHeard(t, w, 3, 0, "0<1Open", "0>1Opened", "0>1Route", "0>1Next", "0<1Report")
	if w.Driver(0).At() != 0 {
		t.Errorf("At() = %d", w.Driver(0).At())
	}
}

func TestATickEndsEachRound(t *testing.T) {
	w := mustNew(t, config(3), 1)
	w.Do(start(0, 3, 2), api.Event{Kind: api.Drop})
	// It is due at 3, that is, with the third round's Tick.
	wantHeard(t, w, 2, 0)
	wantBag(t, "behind two", w)
	wantHeard(t, w, 1, 0)
	wantBag(t, "behind three", w, "0<1 0Open")
	wantHeard(t, w, 1, 0, "0<1Open")
	wantHeard(t, w, 1, 0, "0>1Opened", "0>1Route", "0>1Next")
	// The Follow was ahead of the Tick to 5: sent at 4, it is due at 7.
	for len(w.Bag()) > 0 {
		w.Do(api.Event{Kind: api.Drop})
	}
	w.Do(api.Event{Kind: api.Tick})
	isReport := func(u world.Under) bool { return u.Up }
	if w.Server().Now() != 6 || slices.ContainsFunc(w.Bag(), isReport) {
		t.Errorf("at %d the Report is sent again", w.Server().Now())
	}
	w.Do(api.Event{Kind: api.Tick})
	if !slices.ContainsFunc(w.Bag(), isReport) {
		t.Errorf("at %d the Report is not sent again", w.Server().Now())
	}
}

func TestADataIsLostSoOften(t *testing.T) {
	for lose := range 5 {
		// It is met in the rounds 0, 3, 6 .., and lost in the first ones of these.
		w := mustNew(t, config(3), 1)
		w.Do(start(0, 3, 3))
		wantHeard(t, w, 3*lose, lose)
		w = mustNew(t, config(3), 1)
		w.Do(start(0, 3, 3))
		wantHeard(t, w, 3*lose+1, lose, "0<1Open")
		w = mustNew(t, config(3), 1)
		w.Do(start(0, 3, 3))
		wantHeard(t, w, 6*lose+2, lose, "0<1Open", "0>1Opened", "0>1Route", "0>1Next")
	}
	w := mustNew(t, config(3), 1)
	w.Do(start(0, 3, 2))
	wantHeard(t, w, 999, math.MaxInt)
	// Below 0 is as 0.
	for _, lose := range []int{-1, math.MinInt} {
		w := mustNew(t, config(3), 1)
		w.Do(start(0, 3, 2))
		wantHeard(t, w, 1, lose, "0<1Open")
	}
}

// Each meeting counts, be it the same datagram twice; each Run counts anew.
func TestWhatCounts(t *testing.T) {
	w := mustNew(t, config(900), 1)
	w.Do(start(0, 3, 3), double(0))
	wantHeard(t, w, 1, 1, "0<1Open")
	w = mustNew(t, config(900), 1)
	w.Do(start(0, 3, 3), double(0), double(0))
	wantHeard(t, w, 1, 2, "0<1Open")
	w = mustNew(t, config(900), 1)
	w.Do(start(0, 3, 3), double(0), double(0))
	wantHeard(t, w, 1, 3)
	wantBag(t, "all three are lost", w)
	w = mustNew(t, config(3), 1)
	w.Do(start(0, 3, 3))
	for range 5 {
		wantHeard(t, w, 3, 1)
	}
	wantHeard(t, w, 4, 1, "0<1Open")
}

// The same is one of the same driver, way, connection and number: none of others counts for it.
func TestTheSame(t *testing.T) {
	// Of two drivers, each with its own.
	w := mustNew(t, config(900), 2)
	w.Do(start(0, 3, 3), start(1, 3, 3))
	wantHeard(t, w, 1, 1)
	wantBag(t, "two drivers", w)
	// Of two connections.
	w = mustNew(t, config(900), 1)
	w.Do(start(0, 3, 3), start(0, 3, 3))
	wantHeard(t, w, 1, 1)
	wantBag(t, "two connections", w)
	// Of two numbers.
	w = mustNew(t, config(900), 1)
	w.Do(start(0, 3, 3), api.Event{Kind: api.Move, N: 2})
	wantHeard(t, w, 1, 1)
	wantBag(t, "two numbers", w)
	// Up and down: the Open, with number 0, comes at its second one, Opened, with number 0, is lost.
	w = mustNew(t, config(900), 1)
	w.Do(start(0, 3, 3), double(0))
	wantHeard(t, w, 2, 1, "0<1Open")
	wantBag(t, "up and down", w)
	// The Ack of a Data that is sent again may be another one: it is the same all the same.
	c := config(3)
	c.Window = 1
	w = mustNew(t, c, 1)
	w.Do(start(0, 3, 2), api.Event{Kind: api.Move, N: 3}, api.Event{Kind: api.Move, N: 3})
	arrives := func(heard []api.Heard) (all []int) {
		for _, h := range heard {
			if h.Up {
				all = append(all, h.Msg.Kind)
			}
		}
		return all
	}
	if got := arrives(Run(w, 24, 2)); !slices.Equal(got, []int{api.Open, api.Report, api.Report}) {
		t.Errorf("the server heard %v", got)
	}
}

// Acks and Resets are never lost.
func TestOnlyDataIsLost(t *testing.T) {
	w := mustNew(t, config(3), 1)
	w.Do(start(0, 99, 2), api.Event{Kind: api.Deliver})
	wantBag(t, "Refused", w, "0>1 Reset")
	wantHeard(t, w, 1, 9)
	if w.Driver(0).Live() || w.Driver(0).Why() != api.Refused {
		t.Errorf("Live() = %t, Why() = %d", w.Driver(0).Live(), w.Driver(0).Why())
	}
	w.Do(start(0, 3, 2), api.Event{Kind: api.Deliver})
	wantBag(t, "Open", w, "0>2 Ack1", "0>2 0Opened", "0>2 1Route", "0>2 2Next")
	// The Ack came: the Open is not sent again, though it is due at 4.
	wantHeard(t, w, 2, 9)
	for _, u := range w.Bag() {
		if u.Up {
			t.Errorf("under way %v", u)
		}
	}
}

// P35.2

func TestSure(t *testing.T) {
	good := api.Config{Sessions: 2, Window: 3, Retry: 3, Base: 3, Cap: 10, Idle: 93}
	ask := func(what string, want bool, lose int, turn func(c *api.Config)) {
		t.Helper()
		c := good
		turn(&c)
		if got := Sure(c, lose); got != want {
			t.Errorf("%s: Sure(%+v, %d) = %t", what, c, lose, got)
		}
		if got := Bound(square(), c, lose); got > 0 != want || got < 0 {
			t.Errorf("%s: Bound of %+v, %d is %d", what, c, lose, got)
		}
	}
	as := func(c *api.Config) {}
	ask("as it is", true, 2, as)
	ask("Idle is not above", false, 2, func(c *api.Config) { c.Idle = 92 })
	ask("lose more", false, 3, as)
	ask("Idle for that", true, 3, func(c *api.Config) { c.Idle = 133 })
	ask("Idle just below that", false, 3, func(c *api.Config) { c.Idle = 132 })
	ask("lose above Retry", false, 4, func(c *api.Config) { c.Idle = 1000 })
	ask("lose 0 of Retry 0", true, 0, func(c *api.Config) { c.Retry, c.Idle = 0, 13 })
	ask("Idle 12", false, 0, func(c *api.Config) { c.Idle = 12 })
	ask("lose 1 of Retry 0", false, 1, func(c *api.Config) { c.Retry = 0 })
	for _, lose := range []int{math.MinInt, -1, 4, 20, 1 << 61, 1 << 62, math.MaxInt} {
		ask("no lose", false, lose, as)
	}
	ask("Base 2", false, 2, func(c *api.Config) { c.Base = 2 })
	ask("Base 4", true, 2, func(c *api.Config) { c.Base = 4 })
	ask("Base as Cap", true, 2, func(c *api.Config) { c.Base = 10 })
	// What 27's Check refuses.
	ask("Base above Cap", false, 2, func(c *api.Config) { c.Base = 11 })
	ask("no Sessions", false, 2, func(c *api.Config) { c.Sessions = 0 })
	ask("17 Sessions", false, 2, func(c *api.Config) { c.Sessions = 17 })
	ask("no Window", false, 2, func(c *api.Config) { c.Window = 0 })
	ask("21 tries", false, 2, func(c *api.Config) { c.Retry = 21 })
	ask("Idle above all", false, 2, func(c *api.Config) { c.Idle = 1001 })
	ask("the greatest Idle", true, 2, func(c *api.Config) { c.Idle = 1000 })
	ask("a Cap of no sense", false, 1, func(c *api.Config) { c.Cap = math.MaxInt })
	ask("a Cap below 0", false, 1, func(c *api.Config) { c.Cap = -9 })
}

func TestBound(t *testing.T) {
	c := api.Config{Sessions: 1, Window: 1, Retry: 3, Base: 3, Cap: 10, Idle: 1000}
	for _, x := range []struct {
		edges, lose, want int
	}{{0, 0, 48}, {0, 1, 208}, {9, 0, 156}, {9, 2, 1196}, {512, 3, 68112}} {
		if got := Bound(sample.Loops(1, x.edges, 0), c, x.lose); got != x.want {
			t.Errorf("Bound of %d edges, lose %d: %d, want %d", x.edges, x.lose, got, x.want)
		}
	}
	for what, g := range map[string]api.Graph{"nothing": {}, "513 edges": sample.Loops(1, 513, 0), "257 nodes": sample.Loops(257, 0, 0)} {
		if got := Bound(g, c, 0); got != 0 {
			t.Errorf("%s: %d", what, got)
		}
	}
}

// P35.3

// sure is a Config that is Sure just so, and what is lost then.
func sure(r *rand.Rand, sessions int) (c api.Config, lose int) {
	c = api.Config{Sessions: sessions, Window: 1 + r.Intn(4), Retry: r.Intn(8), Base: 3 + r.Intn(3)}
	c.Cap = c.Base + r.Intn(12)
	lose = r.Intn(c.Retry + 1)
	c.Idle = 4*(lose*c.Cap+3) + 1
	return c, lose
}

// play lets drivers start, with some edges closed, each till it is, and tells which of them had a way, and which arrived within Bound rounds.
func play(t *testing.T, r *rand.Rand, g api.Graph, drivers int, till func() int) (want, got [api.MaxPeers]bool) {
	t.Helper()
	c, lose := sure(r, drivers)
	if c.Idle > 1000 {
		return want, got
	}
	w, _ := world.New(g, c, drivers)
	x, _ := engine.New(g)
	closed := sample.Mask(r.Intn, len(g.Edges), 6)
	for e := range closed {
		if closed[e] {
			w.Do(api.Event{Kind: api.Close, N: e, M: till()})
		}
	}
	for d := range drivers {
		at, node := r.Intn(len(g.Edges)), r.Intn(len(g.Nodes))
		if r.Intn(4) > 0 {
			want[d] = x.Way(at, node, closed).Found
			w.Do(start(d, at, node))
		}
	}
	for _, h := range Run(w, Bound(g, c, lose), lose) {
		if !h.Up && h.Msg.Kind == api.Arrived {
			got[h.D] = true
		}
	}
	return want, got
}

func TestArrives(t *testing.T) {
	r := rand.New(rand.NewSource(353))
	for what, till := range map[string]func() int{
		"for long":  func() int { return 1 << 20 },
		"for short": func() int { return 1 + r.Intn(60) },
	} {
		came := 0
		for range 60 {
			g := sample.Ties(r.Intn, 2+r.Intn(12), 4+r.Intn(30))
			want, got := play(t, r, g, 1+r.Intn(16), till)
			for d := range want {
				if want[d] && !got[d] {
					t.Fatalf("closed %s: driver %d has not arrived", what, d)
				}
				if want[d] {
					came++
				}
			}
		}
		if came < 60 {
			t.Errorf("closed %s: but %d came", what, came)
		}
	}
}

// chain is a row of nodes, with an edge from each to the next one.
func chain(edges int) api.Graph {
	g := api.Graph{Nodes: make([]api.Node, 1)}
	for e := range edges {
		g.Nodes = append(g.Nodes, api.Node{X: e})
		g.Edges = append(g.Edges, api.Edge{From: e, To: e + 1, W: 1})
	}
	return g
}

// The longest way there is, with all lost as often as may be.
func TestArrivesAtTheEndOfAChain(t *testing.T) {
	g := chain(255)
	for _, x := range []struct {
		lose int
		c    api.Config
	}{
		{0, api.Config{Sessions: 1, Window: 1, Retry: 0, Base: 3, Cap: 3, Idle: 13}},
		{1, api.Config{Sessions: 1, Window: 1, Retry: 1, Base: 3, Cap: 3, Idle: 25}},
		{20, api.Config{Sessions: 1, Window: 1, Retry: 20, Base: 3, Cap: 12, Idle: 973}},
	} {
		w, e := world.New(g, x.c, 1)
		if e != api.OK || !Sure(x.c, x.lose) {
			t.Fatalf("lose %d: %d, Sure: %t", x.lose, e, Sure(x.c, x.lose))
		}
		w.Do(start(0, 0, 255))
		heard := Run(w, Bound(g, x.c, x.lose), x.lose)
		if n := len(heard); n == 0 || heard[n-1].Msg.Kind != api.Arrived || w.Driver(0).At() != 254 {
			t.Errorf("lose %d: at %d, heard %d", x.lose, w.Driver(0).At(), n)
		}
	}
}
