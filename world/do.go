package world

import (
	"milepost/api"
	"milepost/driver"
	"milepost/server"
)

// do does one event: on the wire, at the server, or at a driver.
func (w *World) do(e api.Event) []api.Heard {
	switch e.Kind {
	case api.Deliver, api.Drop, api.Double:
		return w.wire(e)
	case api.Tick:
		w.tick()
	case api.Close:
		out, _ := w.server.Close(e.N, e.M)
		w.down(out)
	case api.Reopen:
		out, _ := w.server.Open(e.N)
		w.down(out)
	case api.Start, api.Move, api.Follow, api.Stop, api.Noise:
		if d := w.Driver(e.D); d != nil {
			return w.drive(d, e)
		}
	}
	return nil
}

// wire lets one of those that are under way come, be lost, or be doubled.
func (w *World) wire(e api.Event) []api.Heard {
	if len(w.bag) == 0 {
		return nil
	}
	n := modulo(e.N, len(w.bag))
	if e.Kind == api.Double {
		w.bag = append(w.bag, w.bag[n])
		return nil
	}
	u := w.take(n)
	if e.Kind == api.Drop {
		return nil
	}
	return w.deliver(u)
}

// take takes the n-th of those that are under way out.
func (w *World) take(n int) Under {
	u := w.bag[n]
	// Those ahead move up, not those behind: who lets all come in order takes the first one again and again.
	copy(w.bag[1:n+1], w.bag[:n])
	w.bag = w.bag[1:]
	return u
}

// deliver lets a datagram come, and tells what is heard.
func (w *World) deliver(u Under) []api.Heard {
	if u.Up {
		return w.recv(u.D, u.Data)
	}
	d := w.Driver(u.D)
	out, got := d.Recv(w.server.Now(), u.Data)
	w.up(u.D, out)
	var heard []api.Heard
	for _, m := range got {
		heard = append(heard, api.Heard{D: u.D, Conn: d.Conn(), Msg: m})
	}
	return heard
}

// recv lets bytes come to the server, as from a driver, and tells what it heard.
func (w *World) recv(d int, b []byte) []api.Heard {
	out, heard := w.server.Recv(d, b)
	w.down(out)
	return heard
}

// tick lets time go by for all.
func (w *World) tick() {
	w.down(w.server.Tick())
	for i, d := range w.drivers {
		w.up(i, d.Tick(w.server.Now()))
	}
}

// drive does an event of a driver; what it refuses tells nothing, and sends nothing.
func (w *World) drive(d *driver.Driver, e api.Event) []api.Heard {
	now := w.server.Now()
	var out [][]byte
	switch e.Kind {
	case api.Start:
		out, _ = d.Start(now, e.M, e.N)
	case api.Move:
		out, _ = d.Report(now, e.N)
	case api.Follow:
		out, _ = d.Follow(now)
	case api.Stop:
		out, _ = d.Stop(now)
	case api.Noise:
		return w.recv(e.D, e.Raw)
	}
	w.up(e.D, out)
	return nil
}

// down lets the server's packets be under way.
func (w *World) down(packets []server.Packet) {
	for _, p := range packets {
		w.bag = append(w.bag, Under{D: p.Peer, Data: p.Data})
	}
}

// up lets a driver's datagrams be under way.
func (w *World) up(d int, out [][]byte) {
	for _, b := range out {
		w.bag = append(w.bag, Under{D: d, Up: true, Data: b})
	}
}

// modulo is the rest of n by k, from 0 on, of an n below 0 too.
func modulo(n, k int) int { return (n%k + k) % k }
