package driver

import (
	"fmt"
	"math"
	"math/rand"
	"slices"
	"testing"

	"milepost/api"
	"milepost/gram"
	"milepost/message"
	"milepost/sample"
)

// config is one of a window, and so many tries each so many ticks.
func config(window, retry, base int) api.Config {
	return api.Config{Sessions: 1, Window: window, Retry: retry, Base: base, Cap: base, Idle: 1}
}

// mustNew is a Driver.
func mustNew(t *testing.T, window, retry, base int) *Driver {
	t.Helper()
	d, e := New(config(window, retry, base))
	if d == nil || e != api.OK {
		t.Fatalf("New of (%d, %d, %d): %v, %d", window, retry, base, d, e)
	}
	return d
}

// started is one that was started from edge 7 to node 9, and whose Open was acked.
func started(t *testing.T, window int) *Driver {
	t.Helper()
	d := mustNew(t, window, 2, 5)
	wantSent(t, sends(d.Start(0, 7, 9)), "D1:0/0 Open7>9")
	wantRecv(t, d, 0, ack(1, 1), nil)
	return d
}

// send is what a call told.
type send struct {
	out [][]byte
	e   api.Errno
}

// sends is that of a call.
func sends(out [][]byte, e api.Errno) send { return send{out, e} }

// bytesOf is a datagram that may be.
func bytesOf(g api.Gram) []byte {
	b, e := gram.Encode(g)
	if e != api.OK {
		panic(fmt.Sprint("no datagram: ", g))
	}
	return b
}

// data is a datagram with a message.
func data(conn, seq, ack int, m api.Msg) []byte {
	body, e := message.Encode(m)
	if e != api.OK {
		panic(fmt.Sprint("no message: ", m))
	}
	return bytesOf(api.Gram{Conn: conn, Kind: api.Data, Seq: seq, Ack: ack, Body: body})
}

// What a server sends.
func route(seq int, edges ...int) []byte {
	return data(1, seq, 0, api.Msg{Kind: api.Route, Weight: 9, Edges: edges})
}
func plain(seq, kind int) []byte { return data(1, seq, 0, api.Msg{Kind: kind}) }
func ack(conn, n int) []byte     { return bytesOf(api.Gram{Conn: conn, Kind: api.Ack, Ack: n}) }
func reset(conn, code int) []byte {
	return bytesOf(api.Gram{Conn: conn, Kind: api.Reset, Code: code})
}

// said is a message in short.
func said(m api.Msg) string {
	switch m.Kind {
	case api.Open:
		return fmt.Sprintf("Open%d>%d", m.Pos, m.Dest)
	case api.Report:
		return fmt.Sprintf("Report%d", m.Pos)
	case api.Bye:
		return "Bye"
	case api.Route:
		return fmt.Sprintf("Route%v", m.Edges)
	}
	return fmt.Sprint(m.Kind)
}

// short is datagrams in short; of a Data Seq and Ack, too.
func short(all [][]byte) []string {
	var out []string
	for _, b := range all {
		g, e := gram.Decode(b)
		m, _ := message.Decode(g.Body)
		switch {
		case e != api.OK:
			out = append(out, "?")
		case g.Kind == api.Data:
			out = append(out, fmt.Sprintf("D%d:%d/%d %s", g.Conn, g.Seq, g.Ack, said(m)))
		default:
			out = append(out, fmt.Sprintf("A%d:%d", g.Conn, g.Ack))
		}
	}
	return out
}

// wantSent asks for what a call sends.
func wantSent(t *testing.T, got send, want ...string) {
	t.Helper()
	if x := short(got.out); got.e != api.OK || !slices.Equal(x, want) {
		t.Errorf("sent %q, %d; want %q", x, got.e, want)
	}
}

// wantRefused asks why a call is refused, and that it changed nothing that is to be seen.
func wantRefused(t *testing.T, d *Driver, call func() ([][]byte, api.Errno), want api.Errno) {
	t.Helper()
	ahead := state(d)
	if out, e := call(); len(out) != 0 || e != want {
		t.Errorf("%q, %d; want %d", short(out), e, want)
	}
	if now := state(d); now != ahead {
		t.Errorf("it is %s, and was %s", now, ahead)
	}
}

// wantRecv asks what goes out, and what is got, in short.
func wantRecv(t *testing.T, d *Driver, now int, b []byte, got []string, want ...string) {
	t.Helper()
	out, msgs := d.Recv(now, b)
	var all []string
	for _, m := range msgs {
		all = append(all, said(m))
	}
	if x := short(out); !slices.Equal(x, want) || !slices.Equal(all, got) {
		g, _ := gram.Decode(b)
		t.Errorf("Recv of %v: %q, got %q; want %q, %q", g, x, all, want, got)
	}
}

// wantTick asks what goes out.
func wantTick(t *testing.T, d *Driver, now int, want ...string) {
	t.Helper()
	if x := short(d.Tick(now)); !slices.Equal(x, want) {
		t.Errorf("Tick(%d): %q, want %q", now, x, want)
	}
}

// state is all that a Driver tells of itself.
func state(d *Driver) string {
	way, ok := d.Way()
	return fmt.Sprintf("conn %d live %t why %d at %d way %v %t", d.Conn(), d.Live(), d.Why(), d.At(), way, ok)
}

// wantState asks for that.
func wantState(t *testing.T, d *Driver, want string) {
	t.Helper()
	if got := state(d); got != want {
		t.Errorf("it is %s, want %s", got, want)
	}
}

// got is what is got, in short.
func got(all ...string) []string { return all }

// wrong are no numbers of edges or nodes.
var wrong = []int{math.MinInt, -1, 65536, math.MaxInt}

func ExampleDriver_Start() {
	d, _ := New(api.Config{Sessions: 1, Window: 1, Retry: 3, Base: 2, Cap: 5, Idle: 9})
	d.Start(0, 3, 2)
	out, _ := d.Start(1, 4, 2)
	g, _ := gram.Decode(out[0])
	fmt.Println(d.Conn(), g.Conn, d.Live(), d.At())
	// Output: 2 2 true 4
}

// P31.1

func TestNewRefuses(t *testing.T) {
	for what, set := range map[string]func(c *api.Config){
		"Sessions": func(c *api.Config) { c.Sessions = 0 },
		"Window":   func(c *api.Config) { c.Window = 17 },
		"Retry":    func(c *api.Config) { c.Retry = 21 },
		"Base":     func(c *api.Config) { c.Base = 0 },
		"Cap":      func(c *api.Config) { c.Cap = c.Base - 1 },
		"Idle":     func(c *api.Config) { c.Idle = 1001 },
	} {
		c := config(1, 1, 1)
		set(&c)
		if d, e := New(c); d != nil || e != api.ErrArg {
			t.Errorf("%s: %v, %d", what, d, e)
		}
	}
}

func TestNothingAskedYet(t *testing.T) {
	d := mustNew(t, 4, 2, 5)
	want := "conn 0 live false why 0 at -1 way [] false"
	wantState(t, d, want)
	for _, n := range append(wrong, 0) {
		wantRefused(t, d, func() ([][]byte, api.Errno) { return d.Report(0, n) }, api.ErrNone)
	}
	wantRefused(t, d, func() ([][]byte, api.Errno) { return d.Follow(0) }, api.ErrNone)
	wantRefused(t, d, func() ([][]byte, api.Errno) { return d.Stop(0) }, api.ErrNone)
	wantTick(t, d, 99)
	for conn := range 2 {
		wantRecv(t, d, 0, ack(conn, 0), nil)
		wantRecv(t, d, 0, reset(conn, 3), nil)
		wantRecv(t, d, 0, data(conn, 0, 0, api.Msg{Kind: api.Route, Edges: []int{1}}), nil)
	}
	wantState(t, d, want)
}

func TestStartRefuses(t *testing.T) {
	d := mustNew(t, 4, 2, 5)
	for _, n := range wrong {
		wantRefused(t, d, func() ([][]byte, api.Errno) { return d.Start(0, n, 0) }, api.ErrArg)
		wantRefused(t, d, func() ([][]byte, api.Errno) { return d.Start(0, 0, n) }, api.ErrArg)
	}
	// One that lives goes on.
	d = started(t, 4)
	wantRefused(t, d, func() ([][]byte, api.Errno) { return d.Start(0, 0, 65536) }, api.ErrArg)
	wantSent(t, sends(d.Report(0, 8)), "D1:1/0 Report8")
}

func TestStart(t *testing.T) {
	d := mustNew(t, 4, 2, 5)
	wantSent(t, sends(d.Start(0, 0, 65535)), "D1:0/0 Open0>65535")
	wantState(t, d, "conn 1 live true why 0 at 0 way [] false")
	wantRecv(t, d, 0, route(0, 3, 4), got("Route[3 4]"), "A1:1")
	wantSent(t, sends(d.Report(0, 9)), "D1:1/1 Report9")
	wantRecv(t, d, 0, route(1, 3, 4), got("Route[3 4]"), "A1:2")
	// All anew: numbers, what came, and what was known.
	wantSent(t, sends(d.Start(3, 65535, 0)), "D2:0/0 Open65535>0")
	wantState(t, d, "conn 2 live true why 0 at 65535 way [] false")
	wantRecv(t, d, 3, route(2, 5), nil)
	wantRecv(t, d, 3, data(2, 0, 1, api.Msg{Kind: api.Route, Edges: []int{6}}), got("Route[6]"), "A2:1")
	wantState(t, d, "conn 2 live true why 0 at 65535 way [6] true")
	// From its own now on.
	wantSent(t, sends(d.Start(10, 1, 2)), "D3:0/0 Open1>2")
	wantTick(t, d, 14)
	wantTick(t, d, 15, "D3:0/0 Open1>2")
	// Also one that has ended.
	wantRecv(t, d, 15, reset(3, 4), nil)
	wantState(t, d, "conn 3 live false why 4 at 1 way [] false")
	wantSent(t, sends(d.Start(16, 2, 2)), "D4:0/0 Open2>2")
	wantState(t, d, "conn 4 live true why 0 at 2 way [] false")
}

func TestReport(t *testing.T) {
	d := started(t, 16)
	for _, n := range wrong {
		wantRefused(t, d, func() ([][]byte, api.Errno) { return d.Report(0, n) }, api.ErrArg)
	}
	// Without a way.
	wantSent(t, sends(d.Report(0, 7)), "D1:1/0 Report7")
	wantSent(t, sends(d.Report(0, 0)), "D1:2/0 Report0")
	wantSent(t, sends(d.Report(0, 65535)), "D1:3/0 Report65535")
	wantState(t, d, "conn 1 live true why 0 at 65535 way [] false")
	wantRecv(t, d, 0, route(0, 3, 4, 5), got("Route[3 4 5]"), "A1:1")
	// Where it is already, on its way, and off it.
	wantSent(t, sends(d.Report(0, 65535)), "D1:4/1 Report65535")
	wantState(t, d, "conn 1 live true why 0 at 65535 way [3 4 5] true")
	wantSent(t, sends(d.Report(0, 3)), "D1:5/1 Report3")
	wantState(t, d, "conn 1 live true why 0 at 3 way [4 5] true")
	wantSent(t, sends(d.Report(0, 3)), "D1:6/1 Report3")
	wantState(t, d, "conn 1 live true why 0 at 3 way [4 5] true")
	wantSent(t, sends(d.Report(0, 5)), "D1:7/1 Report5")
	wantState(t, d, "conn 1 live true why 0 at 5 way [] false")
	// To its end: that is a way, though an empty one.
	wantRecv(t, d, 0, route(1, 6), got("Route[6]"), "A1:2")
	wantSent(t, sends(d.Report(0, 6)), "D1:8/2 Report6")
	wantState(t, d, "conn 1 live true why 0 at 6 way [] true")
	wantSent(t, sends(d.Report(0, 6)), "D1:9/2 Report6")
	wantState(t, d, "conn 1 live true why 0 at 6 way [] true")
	wantSent(t, sends(d.Report(0, 5)), "D1:10/2 Report5")
	wantState(t, d, "conn 1 live true why 0 at 5 way [] false")
}

func TestReportOfItsPlaceOnItsWay(t *testing.T) {
	// That it is the first of the way is asked first.
	d := started(t, 16)
	wantRecv(t, d, 0, route(0, 7, 8, 7), got("Route[7 8 7]"), "A1:1")
	wantSent(t, sends(d.Report(0, 7)), "D1:1/1 Report7")
	wantState(t, d, "conn 1 live true why 0 at 7 way [8 7] true")
	wantSent(t, sends(d.Report(0, 7)), "D1:2/1 Report7")
	wantState(t, d, "conn 1 live true why 0 at 7 way [8 7] true")
}

func TestFollow(t *testing.T) {
	d := started(t, 16)
	refuses := func() {
		t.Helper()
		wantRefused(t, d, func() ([][]byte, api.Errno) { return d.Follow(0) }, api.ErrNone)
	}
	refuses()
	wantRecv(t, d, 0, route(0, 3, 3, 65535), got("Route[3 3 65535]"), "A1:1")
	wantSent(t, sends(d.Follow(0)), "D1:1/1 Report3")
	wantSent(t, sends(d.Follow(0)), "D1:2/1 Report3")
	wantState(t, d, "conn 1 live true why 0 at 3 way [65535] true")
	wantSent(t, sends(d.Follow(0)), "D1:3/1 Report65535")
	wantState(t, d, "conn 1 live true why 0 at 65535 way [] true")
	refuses()
	wantRecv(t, d, 0, route(1, 5, 6), got("Route[5 6]"), "A1:2")
	wantRecv(t, d, 0, reset(1, 2), nil)
	refuses()
	wantState(t, d, "conn 1 live false why 2 at 65535 way [5 6] true")
}

func TestStop(t *testing.T) {
	d := started(t, 16)
	wantRecv(t, d, 0, route(0, 3, 4), got("Route[3 4]"), "A1:1")
	wantSent(t, sends(d.Stop(0)), "D1:1/1 Bye")
	wantState(t, d, "conn 1 live true why 0 at 7 way [3 4] true")
	wantSent(t, sends(d.Follow(0)), "D1:2/1 Report3")
	wantSent(t, sends(d.Stop(0)), "D1:3/1 Bye")
}

func TestTooManyWait(t *testing.T) {
	d := started(t, 1)
	wantRecv(t, d, 0, route(0, 3, 4), got("Route[3 4]"), "A1:1")
	wantSent(t, sends(d.Report(0, 7)), "D1:1/1 Report7")
	for range 64 {
		wantSent(t, sends(d.Report(0, 7)))
	}
	for _, call := range []func() ([][]byte, api.Errno){
		func() ([][]byte, api.Errno) { return d.Report(0, 7) },
		func() ([][]byte, api.Errno) { return d.Report(0, 3) },
		func() ([][]byte, api.Errno) { return d.Report(0, 9) },
		func() ([][]byte, api.Errno) { return d.Follow(0) },
		func() ([][]byte, api.Errno) { return d.Stop(0) },
	} {
		wantRefused(t, d, call, api.ErrFull)
	}
	// What may not be is asked first.
	wantRefused(t, d, func() ([][]byte, api.Errno) { return d.Report(0, -1) }, api.ErrArg)
	wantRecv(t, d, 0, ack(1, 2), nil, "D1:2/1 Report7")
	wantSent(t, sends(d.Stop(0)))
	wantRefused(t, d, func() ([][]byte, api.Errno) { return d.Follow(0) }, api.ErrFull)
}

// P31.2

func TestRecv(t *testing.T) {
	d := started(t, 4)
	wantSent(t, sends(d.Report(0, 8)), "D1:1/0 Report8")
	// In order, each once.
	wantRecv(t, d, 1, plain(1, api.Arrived), nil, "A1:0")
	wantRecv(t, d, 1, plain(0, api.Opened), got("4", "8"), "A1:2")
	wantRecv(t, d, 1, plain(0, api.Opened), nil, "A1:2")
	wantRecv(t, d, 1, plain(9, api.Opened), nil, "A1:2")
	// It acks: nothing is sent again.
	wantRecv(t, d, 1, data(1, 2, 2, api.Msg{Kind: api.Wrong, Pos: 5}), got("9"), "A1:3")
	wantTick(t, d, 99)
	// Whatever the message.
	for i, kind := range []int{api.Open, api.Report, api.Bye} {
		m := api.Msg{Kind: kind}
		wantRecv(t, d, 1, data(1, 3+i, 0, m), got(said(m)), fmt.Sprint("A1:", 4+i))
	}
	wantState(t, d, "conn 1 live true why 0 at 8 way [] false")
}

func TestRecvOfAll(t *testing.T) {
	d := started(t, 4)
	all := api.Msg{Kind: api.Next, Hint: api.Hint{Class: api.Left, Edge: 4, Far: 5, Left: 6}}
	_, got := d.Recv(0, data(1, 0, 0, all))
	if len(got) != 1 || !message.Same(got[0], all) {
		t.Errorf("got %+v", got)
	}
}

func TestNotTaken(t *testing.T) {
	d := started(t, 4)
	whole := route(0, 3)
	turned := slices.Clone(whole)
	turned[7] ^= 1
	for _, b := range [][]byte{nil, {}, {77}, whole[1:], whole[:len(whole)-1], turned} {
		wantRecv(t, d, 0, b, nil)
	}
	for _, conn := range []int{0, 2, 1 << 31, 1<<32 - 1} {
		wantRecv(t, d, 0, ack(conn, 1), nil)
		wantRecv(t, d, 0, reset(conn, 3), nil)
		wantRecv(t, d, 0, data(conn, 0, 0, api.Msg{Kind: api.Route, Edges: []int{3}}), nil)
	}
	wantState(t, d, "conn 1 live true why 0 at 7 way [] false")
	// What is no message is passed over, and what comes behind it is got.
	wantRecv(t, d, 0, plain(2, api.Opened), nil, "A1:0")
	wantRecv(t, d, 0, bytesOf(api.Gram{Conn: 1, Kind: api.Data, Seq: 1}), nil, "A1:0")
	wantRecv(t, d, 0, bytesOf(api.Gram{Conn: 1, Kind: api.Data, Body: []byte{77}}), got("4"), "A1:3")
}

func TestRecvPays(t *testing.T) {
	d := mustNew(t, 1, 2, 5)
	d.Start(0, 7, 9)
	wantSent(t, sends(d.Report(0, 7)))
	wantRecv(t, d, 3, data(1, 0, 1, api.Msg{Kind: api.Opened}), got("4"), "A1:1", "D1:1/1 Report7")
	// Under way since 3.
	wantTick(t, d, 7)
	wantTick(t, d, 8, "D1:1/1 Report7")
}

func TestRoutes(t *testing.T) {
	d := started(t, 4)
	wantRecv(t, d, 0, route(0, 3, 4), got("Route[3 4]"), "A1:1")
	wantState(t, d, "conn 1 live true why 0 at 7 way [3 4] true")
	for i, kind := range []int{api.Opened, api.Next, api.Arrived, api.Wrong, api.Bye} {
		d.Recv(0, plain(1+i, kind))
	}
	wantState(t, d, "conn 1 live true why 0 at 7 way [3 4] true")
	wantRecv(t, d, 0, route(6), got("Route[]"), "A1:7")
	wantState(t, d, "conn 1 live true why 0 at 7 way [] true")
	wantRecv(t, d, 0, route(7, 5), got("Route[5]"), "A1:8")
	wantRecv(t, d, 0, plain(8, api.NoRoute), got("6"), "A1:9")
	wantState(t, d, "conn 1 live true why 0 at 7 way [] false")
	// Of several at once the last one counts.
	wantRecv(t, d, 0, route(10, 8), nil, "A1:9")
	wantRecv(t, d, 0, plain(9, api.NoRoute), got("6", "Route[8]"), "A1:11")
	wantState(t, d, "conn 1 live true why 0 at 7 way [8] true")
}

func TestReset(t *testing.T) {
	for _, code := range []int{0, api.Busy, api.Unknown, api.Expired, api.Refused, 255} {
		d := started(t, 4)
		d.Recv(0, route(0, 3))
		d.Report(0, 7)
		want := fmt.Sprintf("conn 1 live false why %d at 7 way [3] true", code)
		wantRecv(t, d, 0, reset(1, code), nil)
		wantState(t, d, want)
		// It is over: nothing is sent, and nothing taken, not even another Reset.
		wantRecv(t, d, 0, reset(1, 9), nil)
		wantRecv(t, d, 0, route(1, 5), nil)
		wantRecv(t, d, 0, ack(1, 1), nil)
		wantTick(t, d, 5)
		wantTick(t, d, 500)
		wantRefused(t, d, func() ([][]byte, api.Errno) { return d.Report(0, 7) }, api.ErrNone)
		wantRefused(t, d, func() ([][]byte, api.Errno) { return d.Report(0, -1) }, api.ErrNone)
		wantRefused(t, d, func() ([][]byte, api.Errno) { return d.Follow(0) }, api.ErrNone)
		wantRefused(t, d, func() ([][]byte, api.Errno) { return d.Stop(0) }, api.ErrNone)
		wantState(t, d, want)
	}
}

func TestTick(t *testing.T) {
	d := mustNew(t, 2, 2, 5)
	wantSent(t, sends(d.Start(0, 7, 9)), "D1:0/0 Open7>9")
	wantSent(t, sends(d.Report(2, 8)), "D1:1/0 Report8")
	wantTick(t, d, 4)
	wantTick(t, d, 5, "D1:0/0 Open7>9")
	wantRecv(t, d, 5, plain(0, api.Opened), got("4"), "A1:1")
	wantTick(t, d, 7, "D1:1/1 Report8")
	wantTick(t, d, 12, "D1:0/1 Open7>9", "D1:1/1 Report8")
	wantState(t, d, "conn 1 live true why 0 at 8 way [] false")
	// Over: no Reset came.
	wantTick(t, d, 17)
	wantState(t, d, "conn 1 live false why 0 at 8 way [] false")
	wantTick(t, d, 99)
	wantRecv(t, d, 99, reset(1, 3), nil)
	wantState(t, d, "conn 1 live false why 0 at 8 way [] false")
	wantRefused(t, d, func() ([][]byte, api.Errno) { return d.Stop(99) }, api.ErrNone)
}

func TestNilAndZeroDriver(t *testing.T) {
	for _, d := range []*Driver{nil, {}} {
		wantState(t, d, "conn 0 live false why 0 at -1 way [] false")
		for _, n := range append(wrong, 0) {
			wantRefused(t, d, func() ([][]byte, api.Errno) { return d.Report(0, n) }, api.ErrNone)
			if d == nil {
				wantRefused(t, d, func() ([][]byte, api.Errno) { return d.Start(0, n, 0) }, api.ErrNone)
			} else {
				wantRefused(t, d, func() ([][]byte, api.Errno) { return d.Start(0, n, 0) }, api.ErrArg)
			}
		}
		wantRefused(t, d, func() ([][]byte, api.Errno) { return d.Follow(0) }, api.ErrNone)
		wantRefused(t, d, func() ([][]byte, api.Errno) { return d.Stop(0) }, api.ErrNone)
		wantTick(t, d, 0)
		for _, b := range [][]byte{nil, ack(0, 0), reset(0, 1), route(0, 3)} {
			wantRecv(t, d, 0, b, nil)
		}
	}
}

func TestArgumentsAndAnswers(t *testing.T) {
	d := mustNew(t, 4, 9, 5)
	out, _ := d.Start(0, 7, 9)
	for _, b := range out {
		sample.Overwrite(b, 77)
	}
	wantTick(t, d, 5, "D1:0/0 Open7>9")
	b := append(route(0, 3, 4), 99, 99)
	whole := b[:len(b)-2]
	acks, msgs := d.Recv(5, whole)
	if !slices.Equal(whole, route(0, 3, 4)) || b[len(b)-1] != 99 {
		t.Errorf("an argument was changed: %v", b)
	}
	sample.Overwrite(whole, 77)
	sample.Overwrite(acks[0], 77)
	sample.Overwrite(msgs[0].Edges, 77)
	way, _ := d.Way()
	sample.Overwrite(way, 77)
	again := d.Tick(10)
	sample.Overwrite(again[0], 77)
	wantTick(t, d, 15, "D1:0/1 Open7>9")
	wantState(t, d, "conn 1 live true why 0 at 7 way [3 4] true")
	wantSent(t, sends(d.Follow(15)), "D1:1/1 Report3")
	way, _ = d.Way()
	sample.Overwrite(way, 77)
	wantState(t, d, "conn 1 live true why 0 at 3 way [4] true")
	// Two have nothing in common.
	wantState(t, mustNew(t, 4, 9, 5), "conn 0 live false why 0 at -1 way [] false")
}

// P31.1, P31.2: At and Way

// word is what a Driver knows, as the chapter says it.
type word struct {
	at  int
	has bool
	way []int
}

// report goes to an edge.
func (w *word) report(pos int) {
	if w.has {
		switch {
		case len(w.way) > 0 && w.way[0] == pos:
			w.way = w.way[1:]
		case pos == w.at:
		default:
			w.has, w.way = false, nil
		}
	}
	w.at = pos
}

func TestAtAndWayAsTheChapterSays(t *testing.T) {
	r := rand.New(rand.NewSource(31))
	for range 300 {
		d, w, seq := started(t, 16), word{at: 7}, 0
		for k := range 40 {
			switch r.Intn(5) {
			case 0:
				w.has, w.way = true, nil
				for range r.Intn(4) {
					w.way = append(w.way, r.Intn(3))
				}
				d.Recv(k, route(seq, w.way...))
				seq++
			case 1:
				d.Recv(k, plain(seq, []int{api.NoRoute, api.Opened, api.Arrived}[seq%3]))
				if seq%3 == 0 {
					w.has, w.way = false, nil
				}
				seq++
			case 2:
				_, e := d.Follow(k)
				if (e == api.OK) != (len(w.way) > 0) {
					t.Fatalf("Follow: %d, of %+v", e, w)
				}
				if e == api.OK {
					w.report(w.way[0])
				}
			default:
				pos := r.Intn(3)
				if _, e := d.Report(k, pos); e != api.OK {
					t.Fatalf("Report: %d", e)
				}
				w.report(pos)
			}
			d.Recv(k, ack(1, d.channel.Seq()))
			wantState(t, d, fmt.Sprintf("conn 1 live true why 0 at %d way %v %t", w.at, append([]int{}, w.way...), w.has))
			if t.Failed() {
				t.FailNow()
			}
		}
	}
}
