package ideal

import (
	"math/rand"
	"slices"
	"testing"

	"milepost/api"
	"milepost/engine"
	"milepost/gram"
	"milepost/message"
	"milepost/sample"
	"milepost/session"
	"milepost/shuts"
	"milepost/world"
)

// P34.1, by chapter 28's own sessions, and P34.3

// sessions is the same as an Ideal, with an Engine's ways.
type sessions struct {
	engine *engine.Engine
	shuts  *shuts.Set
	now    int
	all    map[key]*session.Session
	told   map[key][]api.Msg
}

// heard is Heard.
func (s *sessions) heard(h api.Heard) {
	k := key{h.D, h.Conn}
	switch {
	case h.Up && h.Msg.Kind == api.Open:
		s.all[k], s.told[k], _ = session.New(s.engine, h.Msg.Pos, h.Msg.Dest, s.shuts.Mask())
	case h.Up && h.Msg.Kind == api.Report:
		s.told[k] = append(s.told[k], s.all[k].Report(h.Msg.Pos, s.shuts.Mask())...)
	}
}

// changed is what Close, Open and Tick tell.
func (s *sessions) changed(shut, open []int) {
	for k, x := range s.all {
		s.told[k] = append(s.told[k], x.Changed(shut, open, s.shuts.Mask())...)
	}
}

func TestIsAsSessionsAre(t *testing.T) {
	r := rand.New(rand.NewSource(341))
	kinds := map[int]int{}
	for range 60 {
		g := sample.Ties(r.Intn, 2+r.Intn(8), 4+r.Intn(20))
		i, _ := New(g)
		x, _ := engine.New(g)
		s := &sessions{engine: x, shuts: shuts.New(len(g.Edges)), all: map[key]*session.Session{}, told: map[key][]api.Msg{}}
		for range 400 {
			d, conn, edge := r.Intn(3), r.Intn(2), r.Intn(len(g.Edges)+1)
			switch r.Intn(12) {
			case 0:
				h := openAt(d, conn, edge, r.Intn(len(g.Nodes)+1))
				i.Heard(h)
				s.heard(h)
			case 1, 2:
				ticks := r.Intn(9)
				i.Close(edge, ticks)
				if ticks > 0 {
					shut, _ := s.shuts.Close(s.now+ticks, edge)
					s.changed(shut, nil)
				}
			case 3:
				i.Open(edge)
				open, _ := s.shuts.Open(edge)
				s.changed(nil, open)
			case 4, 5:
				i.Tick()
				s.now++
				s.changed(nil, s.shuts.Lapse(s.now))
			default:
				// On its way, mostly.
				if left, _ := s.all[key{d, conn}].Left(); len(left) > 0 && r.Intn(3) > 0 {
					edge = left[0]
				}
				h := api.Heard{D: d, Conn: conn, Up: r.Intn(9) > 0, Msg: api.Msg{Kind: api.Report, Pos: edge}}
				i.Heard(h)
				s.heard(h)
			}
		}
		for k, want := range s.told {
			got := i.Told(k.d, k.conn)
			if !slices.EqualFunc(got, want, message.Same) {
				t.Fatalf("%v: told %+v, want %+v", k, got, want)
			}
			for _, m := range got {
				kinds[m.Kind]++
			}
		}
	}
	wantKinds(t, kinds, 30)
}

// wantKinds asks that so many of each kind that may be told were met.
func wantKinds(t *testing.T, kinds map[int]int, least int) {
	t.Helper()
	for _, kind := range []int{api.Opened, api.Route, api.NoRoute, api.Next, api.Arrived, api.Wrong} {
		if kinds[kind] < least {
			t.Errorf("of kind %d there are %d", kind, kinds[kind])
		}
	}
}

// some is an event in a world of such a graph.
func some(r *rand.Rand, g api.Graph) api.Event {
	e := api.Event{Kind: []int{1, 1, 1, 1, 1, 1, 1, 2, 3, 4, 4, 5, 6, 7, 8, 9, 9, 9, 9, 10, 11}[r.Intn(21)], D: r.Intn(3), N: r.Intn(99), M: r.Intn(9)}
	switch e.Kind {
	case api.Close, api.Reopen:
		e.N = r.Intn(len(g.Edges) + 1)
	case api.Move:
		e.N = r.Intn(len(g.Edges) + 5)
	case api.Start:
		e.N, e.M = r.Intn(len(g.Nodes)), r.Intn(len(g.Edges))
	case api.Stop:
		if r.Intn(3) > 0 {
			e.Kind = api.Follow
		}
	case api.Noise:
		// What might have been a driver's, but is not.
		body, _ := message.Encode(api.Msg{Kind: 1 + r.Intn(4), Pos: r.Intn(len(g.Edges) + 1), Dest: r.Intn(len(g.Nodes))})
		e.Raw, _ = gram.Encode(api.Gram{Kind: 1 + r.Intn(3), Conn: 1 + r.Intn(6), Seq: r.Intn(6), Ack: r.Intn(6), Body: body})
	}
	return e
}

// follow lets an Ideal do what a world did.
func (i *Ideal) follow(e api.Event, heard []api.Heard) {
	for _, h := range heard {
		i.Heard(h)
	}
	switch e.Kind {
	case api.Tick:
		i.Tick()
	case api.Close:
		i.Close(e.N, e.M)
	case api.Reopen:
		i.Open(e.N)
	}
}

func TestDriversHearTheBeginningOfWhatIsTold(t *testing.T) {
	r := rand.New(rand.NewSource(343))
	kinds := map[int]int{}
	for range 160 {
		g := sample.Ties(r.Intn, 2+r.Intn(8), 4+r.Intn(20))
		c := api.Config{Sessions: 1 + r.Intn(3), Window: 1 + r.Intn(6), Retry: r.Intn(8), Base: 1 + r.Intn(4), Cap: 4 + r.Intn(9), Idle: 10 + r.Intn(80)}
		w, _ := world.New(g, c, 3)
		i, _ := New(g)
		got := map[key][]api.Msg{}
		for range 500 {
			e := some(r, g)
			heard := w.Do(e)
			i.follow(e, heard)
			for _, h := range heard {
				if !h.Up {
					k := key{h.D, h.Conn}
					got[k] = append(got[k], h.Msg)
					kinds[h.Msg.Kind]++
				}
			}
			if n := len(w.Server().Live()); n > c.Sessions {
				t.Fatalf("there are %d, of %d", n, c.Sessions)
			}
		}
		for k, l := range got {
			if !i.Fits(k.d, k.conn, l...) {
				t.Fatalf("driver %d, connection %d: heard %+v, of %+v", k.d, k.conn, l, i.Told(k.d, k.conn))
			}
		}
	}
	wantKinds(t, kinds, 20)
}

// Where nothing is lost, all that is told is heard.
func TestAllIsHeardWhereNothingIsLost(t *testing.T) {
	r := rand.New(rand.NewSource(344))
	kinds := map[int]int{}
	for range 40 {
		g := sample.Ties(r.Intn, 2+r.Intn(8), 4+r.Intn(20))
		w, _ := world.New(g, api.Config{Sessions: 3, Window: 16, Retry: 20, Base: 1000, Cap: 1000, Idle: 1000}, 3)
		i, _ := New(g)
		got := map[key][]api.Msg{}
		do := func(e api.Event) {
			heard := w.Do(e)
			i.follow(e, heard)
			for _, h := range heard {
				if !h.Up {
					k := key{h.D, h.Conn}
					got[k] = append(got[k], h.Msg)
					kinds[h.Msg.Kind]++
				}
			}
		}
		for d := range 3 {
			do(api.Event{Kind: api.Start, D: d, N: r.Intn(len(g.Nodes)), M: r.Intn(len(g.Edges))})
		}
		for range 300 {
			if e := some(r, g); e.Kind != api.Noise && e.Kind != api.Drop && e.Kind != api.Start && e.Kind != api.Stop {
				do(e)
			}
			for len(w.Bag()) > 0 {
				do(api.Event{Kind: api.Deliver})
			}
		}
		for d := range 3 {
			if want := i.Told(d, 1); !slices.EqualFunc(got[key{d, 1}], want, message.Same) {
				t.Fatalf("driver %d: heard %+v, want %+v", d, got[key{d, 1}], want)
			}
		}
	}
	wantKinds(t, kinds, 10)
}
