package driver

import (
	"math/rand"
	"slices"
	"testing"

	"milepost/api"
	"milepost/engine"
	"milepost/message"
	"milepost/sample"
	"milepost/server"
	"milepost/session"
)

// P31.3, and all that the server promises of what it tells

// under is a datagram under way: up from a driver, or down to it.
type under struct {
	d    int
	isUp bool
	data []byte
}

// key is a driver's connection.
type key struct{ d, conn int }

// play is drivers, a server, and a wire that loses, doubles and turns round; and, for each connection, a session without a wire that hears the same as the server.
type play struct {
	r       *rand.Rand
	engine  *engine.Engine
	server  *server.Server
	drivers []*Driver
	bag     []under
	alone   map[key]*session.Session
	told    map[key][]api.Msg
	got     map[key][]api.Msg
}

// begin is a play of a graph.
func begin(r *rand.Rand, p api.Graph, c api.Config, drivers int) *play {
	e, _ := engine.New(p)
	s, _ := server.New(p, c)
	w := &play{r: r, engine: e, server: s, alone: map[key]*session.Session{}, told: map[key][]api.Msg{}, got: map[key][]api.Msg{}}
	for range drivers {
		d, _ := New(c)
		w.drivers = append(w.drivers, d)
	}
	return w
}

// mask is what is closed at the server.
func (w *play) mask() []bool {
	mask := make([]bool, w.engine.Edges())
	for _, s := range w.server.Closed() {
		mask[s.Edge] = true
	}
	return mask
}

// down lets the server's packets be under way.
func (w *play) down(packets []server.Packet) {
	for _, p := range packets {
		w.bag = append(w.bag, under{d: p.Peer, data: p.Data})
	}
}

// up lets a driver's datagrams be under way.
func (w *play) up(d int, out [][]byte) {
	for _, b := range out {
		w.bag = append(w.bag, under{d: d, isUp: true, data: b})
	}
}

// hear lets the sessions without a wire hear what the server heard.
func (w *play) hear(heard []api.Heard) {
	for _, h := range heard {
		k := key{h.D, h.Conn}
		switch h.Msg.Kind {
		case api.Open:
			w.alone[k], w.told[k], _ = session.New(w.engine, h.Msg.Pos, h.Msg.Dest, w.mask())
		case api.Report:
			w.told[k] = append(w.told[k], w.alone[k].Report(h.Msg.Pos, w.mask())...)
		}
	}
}

// changed lets all of them know which edges were closed, or opened, since.
func (w *play) changed(was []bool) {
	now := w.mask()
	var shut, open []int
	for e := range now {
		switch {
		case now[e] && !was[e]:
			shut = append(shut, e)
		case !now[e] && was[e]:
			open = append(open, e)
		}
	}
	for k, s := range w.alone {
		w.told[k] = append(w.told[k], s.Changed(shut, open, now)...)
	}
}

// deliver lets one that is under way come.
func (w *play) deliver(u under) {
	if u.isUp {
		out, heard := w.server.Recv(u.d, u.data)
		w.hear(heard)
		w.down(out)
		return
	}
	d := w.drivers[u.d]
	out, got := d.Recv(w.server.Now(), u.data)
	k := key{u.d, d.Conn()}
	w.got[k] = append(w.got[k], got...)
	w.up(u.d, out)
}

// tick lets time go by for all.
func (w *play) tick() {
	was := w.mask()
	w.down(w.server.Tick())
	w.changed(was)
	for i, d := range w.drivers {
		w.up(i, d.Tick(w.server.Now()))
	}
}

// wire lets one datagram come, be lost, or be doubled.
func (w *play) wire() {
	if len(w.bag) == 0 {
		return
	}
	i := w.r.Intn(len(w.bag))
	u := w.bag[i]
	switch w.r.Intn(6) {
	case 0:
		w.bag = slices.Delete(w.bag, i, i+1)
	case 1:
		w.deliver(u)
	default:
		w.bag = slices.Delete(w.bag, i, i+1)
		w.deliver(u)
	}
}

// drive lets one driver do something.
func (w *play) drive() {
	i := w.r.Intn(len(w.drivers))
	d, now := w.drivers[i], w.server.Now()
	var out [][]byte
	switch k := w.r.Intn(30); {
	case k == 0 || !d.Live():
		out, _ = d.Start(now, w.r.Intn(w.engine.Edges()), w.r.Intn(w.engine.Nodes()))
	case k == 1:
		out, _ = d.Stop(now)
	case k < 10:
		out, _ = d.Report(now, w.r.Intn(w.engine.Edges()+1))
	default:
		out, _ = d.Follow(now)
	}
	w.up(i, out)
}

// road closes an edge, or opens one.
func (w *play) road() {
	was, edge := w.mask(), w.r.Intn(w.engine.Edges())
	var out []server.Packet
	if w.r.Intn(3) == 0 {
		out, _ = w.server.Open(edge)
	} else {
		out, _ = w.server.Close(edge, 1+w.r.Intn(9))
	}
	w.down(out)
	w.changed(was)
}

func TestHearsTheBeginningOfWhatWasTold(t *testing.T) {
	r := rand.New(rand.NewSource(313))
	kinds := map[int]int{}
	for range 40 {
		p := sample.Ties(r.Intn, 2+r.Intn(8), 4+r.Intn(20))
		c := api.Config{Sessions: 1 + r.Intn(4), Window: 1 + r.Intn(6), Retry: r.Intn(8), Base: 1 + r.Intn(4), Cap: 4 + r.Intn(9), Idle: 20 + r.Intn(80)}
		w := begin(r, p, c, 1+r.Intn(4))
		for range 600 {
			switch k := r.Intn(20); {
			case k < 12:
				w.wire()
			case k < 15:
				w.drive()
			case k < 16:
				w.road()
			default:
				w.tick()
			}
			if n := len(w.server.Live()); n > c.Sessions {
				t.Fatalf("there are %d, of %d", n, c.Sessions)
			}
		}
		for k, got := range w.got {
			told := w.told[k]
			if len(got) > len(told) || !slices.EqualFunc(got, told[:len(got)], message.Same) {
				t.Fatalf("driver %d, connection %d: got %+v, of %+v", k.d, k.conn, got, told)
			}
			for _, m := range got {
				kinds[m.Kind]++
			}
		}
	}
	for _, kind := range []int{api.Opened, api.Route, api.NoRoute, api.Next, api.Arrived, api.Wrong} {
		if kinds[kind] < 20 {
			t.Errorf("of kind %d were got %d", kind, kinds[kind])
		}
	}
}

func TestArrives(t *testing.T) {
	r := rand.New(rand.NewSource(3131))
	arrived := 0
	for range 40 {
		p := sample.Ties(r.Intn, 2+r.Intn(8), 10+r.Intn(30))
		w := begin(r, p, api.Config{Sessions: 1, Window: 4, Retry: 5, Base: 3, Cap: 9, Idle: 50}, 1)
		at, node := r.Intn(len(p.Edges)), r.Intn(len(p.Nodes))
		out, _ := w.drivers[0].Start(0, at, node)
		w.up(0, out)
		isRoute := w.engine.Way(at, node, nil).Found
		k := key{0, 1}
		for range 200 {
			for len(w.bag) > 0 {
				u := w.bag[0]
				w.bag = w.bag[1:]
				w.deliver(u)
			}
			out, _ := w.drivers[0].Follow(w.server.Now())
			w.up(0, out)
		}
		got := w.got[k]
		if !slices.EqualFunc(got, w.told[k], message.Same) {
			t.Fatalf("got %+v, of %+v", got, w.told[k])
		}
		if isArrived := got[len(got)-1].Kind == api.Arrived; isArrived != isRoute {
			t.Fatalf("there is a way: %t; it has arrived: %t", isRoute, isArrived)
		}
		if isRoute {
			arrived++
		}
	}
	if arrived < 20 {
		t.Errorf("but %d arrived", arrived)
	}
}
