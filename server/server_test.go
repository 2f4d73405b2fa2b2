package server

import (
	"fmt"
	"math"
	"math/rand"
	"slices"
	"testing"

	"milepost/api"
	"milepost/gram"
	"milepost/message"
	"milepost/sample"
)

// square is four nodes round, both ways: edges 0 to 3 the one way round, 4 to 7 the other one; 8 goes across; node 4 is alone.
func square() api.Graph {
	return api.Graph{
		Nodes: []api.Node{{X: 0, Y: 0}, {X: 10, Y: 0}, {X: 10, Y: 10}, {X: 0, Y: 10}, {X: 5, Y: 20}},
		Edges: []api.Edge{{From: 0, To: 1, W: 2}, {From: 1, To: 2, W: 3}, {From: 2, To: 3, W: 4}, {From: 3, To: 0, W: 5}, {From: 1, To: 0, W: 2}, {From: 2, To: 1, W: 3}, {From: 3, To: 2, W: 4}, {From: 0, To: 3, W: 5}, {From: 0, To: 2, W: 6}},
	}
}

// config is one of so many sessions, of a window, of so many tries each so many ticks, and of idling so long.
func config(sessions, window, retry, base, idle int) api.Config {
	return api.Config{Sessions: sessions, Window: window, Retry: retry, Base: base, Cap: base, Idle: idle}
}

// calm is a Config by which nothing is sent again, and nobody expires, for a thousand ticks.
func calm(sessions int) api.Config { return config(sessions, 16, 20, 1000, 1000) }

// mustNew is the Server of the square.
func mustNew(t *testing.T, c api.Config) *Server {
	t.Helper()
	s, e := New(square(), c)
	if s == nil || e != api.OK {
		t.Fatalf("New(%v): %v, %d", c, s, e)
	}
	return s
}

// bytesOf is a datagram that may be.
func bytesOf(g api.Gram) []byte {
	b, e := gram.Encode(g)
	if e != api.OK {
		panic(fmt.Sprint("no datagram: ", g))
	}
	return b
}

// data is a datagram with a message.
func data(conn, seq int, m api.Msg) []byte {
	body, e := message.Encode(m)
	if e != api.OK {
		panic(fmt.Sprint("no message: ", m))
	}
	return bytesOf(api.Gram{Conn: conn, Kind: api.Data, Seq: seq, Body: body})
}

// What a driver sends.
func open(conn, pos, dest int) []byte {
	return data(conn, 0, api.Msg{Kind: api.Open, Pos: pos, Dest: dest})
}
func report(conn, seq, pos int) []byte {
	return data(conn, seq, api.Msg{Kind: api.Report, Pos: pos})
}
func bye(conn, seq int) []byte { return data(conn, seq, api.Msg{Kind: api.Bye}) }
func ack(conn, n int) []byte   { return bytesOf(api.Gram{Conn: conn, Kind: api.Ack, Ack: n}) }

// noise is a datagram with a body that is no message.
func noise(conn, seq int) []byte {
	return bytesOf(api.Gram{Conn: conn, Kind: api.Data, Seq: seq, Body: []byte{99}})
}

// said is a message in short.
func said(m api.Msg) string {
	switch m.Kind {
	case api.Open:
		return fmt.Sprint("Open", m.Pos, ">", m.Dest)
	case api.Report:
		return fmt.Sprint("Report", m.Pos)
	case api.Bye:
		return "Bye"
	case api.Opened:
		return "Opened"
	case api.Route:
		return fmt.Sprintf("Route%v%d", m.Edges, m.Weight)
	case api.NoRoute:
		return "NoRoute"
	case api.Next:
		return fmt.Sprint("Next", m.Hint)
	case api.Arrived:
		return "Arrived"
	case api.Wrong:
		return fmt.Sprint("Wrong", m.Pos)
	}
	return "?"
}

// short is packets in short: the peer; of a Data Seq and Ack, too.
func short(all []Packet) []string {
	var out []string
	for _, p := range all {
		g, e := gram.Decode(p.Data)
		m, _ := message.Decode(g.Body)
		switch {
		case e != api.OK:
			out = append(out, fmt.Sprint(p.Peer, " ?"))
		case g.Kind == api.Data:
			out = append(out, fmt.Sprintf("%d D%d:%d/%d %s", p.Peer, g.Conn, g.Seq, g.Ack, said(m)))
		case g.Kind == api.Ack:
			out = append(out, fmt.Sprintf("%d A%d:%d", p.Peer, g.Conn, g.Ack))
		default:
			out = append(out, fmt.Sprintf("%d X%d:%d", p.Peer, g.Conn, g.Code))
		}
	}
	return out
}

// wantOut asks for packets.
func wantOut(t *testing.T, what string, got []Packet, want ...string) {
	t.Helper()
	if x := short(got); !slices.Equal(x, want) {
		t.Errorf("%s:\n out %q\nwant %q", what, x, want)
	}
}

// wantRecv asks what is heard, in short, and what goes out.
func wantRecv(t *testing.T, s *Server, peer int, b []byte, hears []string, want ...string) {
	t.Helper()
	out, heard := s.Recv(peer, b)
	g, _ := gram.Decode(b)
	what := fmt.Sprint("Recv of ", peer, ", ", g)
	wantOut(t, what, out, want...)
	var got []string
	for _, h := range heard {
		if h.D != peer || h.Conn != g.Conn || !h.Up {
			t.Errorf("%s: heard %+v", what, h)
		}
		got = append(got, said(h.Msg))
	}
	if !slices.Equal(got, hears) {
		t.Errorf("%s: heard %q, want %q", what, got, hears)
	}
}

// wantNothing asks that nothing is heard, and nothing goes out, and that nothing changes.
func wantNothing(t *testing.T, s *Server, peer int, b []byte) {
	t.Helper()
	live := s.Live()
	wantRecv(t, s, peer, b, nil)
	wantLive(t, s, live...)
}

// wantLive asks who is there.
func wantLive(t *testing.T, s *Server, want ...int) {
	t.Helper()
	if got := s.Live(); !slices.Equal(got, want) {
		t.Errorf("Live() = %v, want %v", got, want)
	}
}

// wantClosed asks what is closed.
func wantClosed(t *testing.T, s *Server, want ...api.Shut) {
	t.Helper()
	if got := s.Closed(); !slices.Equal(got, want) {
		t.Errorf("Closed() = %v, want %v", got, want)
	}
}

// wantTick asks what goes out with a tick.
func wantTick(t *testing.T, s *Server, want ...string) {
	t.Helper()
	now := s.Now()
	out := s.Tick()
	wantOut(t, fmt.Sprint("Tick to ", now+1), out, want...)
	if s.Now() != now+1 {
		t.Errorf("Now() = %d, want %d", s.Now(), now+1)
	}
}

// wantClose asks what goes out when an edge is closed.
func wantClose(t *testing.T, s *Server, edge, ticks int, want ...string) {
	t.Helper()
	out, e := s.Close(edge, ticks)
	wantOut(t, fmt.Sprint("Close of ", edge), out, want...)
	if e != api.OK {
		t.Errorf("Close(%d, %d): %d", edge, ticks, e)
	}
}

// wantOpen asks what goes out when an edge is opened.
func wantOpen(t *testing.T, s *Server, edge int, want ...string) {
	t.Helper()
	out, e := s.Open(edge)
	wantOut(t, fmt.Sprint("Open of ", edge), out, want...)
	if e != api.OK {
		t.Errorf("Open(%d): %d", edge, e)
	}
}

// hears is what is heard, in short.
func hears(all ...string) []string { return all }

func ExampleServer_Recv() {
	s, _ := New(api.Graph{Nodes: make([]api.Node, 1)}, api.Config{Sessions: 1, Window: 1, Retry: 3, Base: 2, Cap: 5, Idle: 9})
	b, _ := gram.Encode(api.Gram{Conn: 7, Kind: api.Ack})
	out, heard := s.Recv(3, b)
	g, _ := gram.Decode(out[0].Data)
	fmt.Println(out[0].Peer, g.Conn, g.Kind == api.Reset, g.Code == api.Unknown, len(heard))
	// Output: 3 7 true true 0
}

// P30.1

func TestNewRefuses(t *testing.T) {
	for what, g := range map[string]api.Graph{
		"nothing":   {},
		"no node":   {Nodes: make([]api.Node, 1), Edges: []api.Edge{{From: 0, To: 1, W: 1}}},
		"too many":  sample.Loops(257, 1, 0),
		"513 edges": sample.Loops(1, 513, 0),
	} {
		if s, e := New(g, calm(1)); s != nil || e != api.ErrArg {
			t.Errorf("%s: %v, %d", what, s, e)
		}
	}
	for _, c := range []api.Config{{}, config(0, 1, 0, 1, 1), config(17, 1, 0, 1, 1), config(1, 0, 0, 1, 1), config(1, 17, 0, 1, 1), config(1, 1, -1, 1, 1), config(1, 1, 21, 1, 1), config(1, 1, 0, 0, 1), config(1, 1, 0, 1001, 1), config(1, 1, 0, 1, 0), config(1, 1, 0, 1, 1001), {Sessions: 1, Window: 1, Base: 2, Cap: 1, Idle: 1}} {
		if s, e := New(square(), c); s != nil || e != api.ErrArg {
			t.Errorf("%+v: %v, %d", c, s, e)
		}
	}
}

func TestNew(t *testing.T) {
	for _, c := range []api.Config{config(1, 1, 0, 1, 1), config(16, 16, 20, 1000, 1000)} {
		s := mustNew(t, c)
		if s.Now() != 0 {
			t.Errorf("Now() = %d", s.Now())
		}
		wantLive(t, s)
		wantClosed(t, s)
		wantTick(t, s)
	}
	s, e := New(api.Graph{Nodes: make([]api.Node, 1)}, calm(1))
	if e != api.OK {
		t.Fatalf("of one node: %d", e)
	}
	wantRecv(t, s, 0, open(1, 0, 0), nil, "0 X1:4")
	if out, e := s.Close(0, 1); len(out) != 0 || e != api.ErrArg {
		t.Errorf("Close(0, 1) = %v, %d", out, e)
	}
}

func TestNilAndZeroServer(t *testing.T) {
	for _, s := range []*Server{nil, {}} {
		for _, b := range [][]byte{nil, open(1, 0, 0), ack(1, 0), open(0, 0, 0)} {
			wantNothing(t, s, 0, b)
		}
		wantLive(t, s)
		wantClosed(t, s)
		wantOut(t, "Tick", s.Tick())
		if out, e := s.Close(0, 1); len(out) != 0 || e != api.ErrArg {
			t.Errorf("Close(0, 1) = %v, %d", out, e)
		}
		if out, e := s.Open(0); len(out) != 0 || e != api.ErrArg {
			t.Errorf("Open(0) = %v, %d", out, e)
		}
	}
	var none *Server
	if none.Now() != 0 {
		t.Errorf("Now() = %d", none.Now())
	}
}

func TestLiveAndClosed(t *testing.T) {
	s := mustNew(t, calm(16))
	for _, peer := range []int{15, 0, 7} {
		s.Recv(peer, open(1, 0, 2))
	}
	wantLive(t, s, 0, 7, 15)
	s.Close(5, 9)
	s.Tick()
	s.Close(2, 7)
	wantClosed(t, s, api.Shut{Edge: 2, Until: 8}, api.Shut{Edge: 5, Until: 9})
}

// P30.2: nothing

func TestNothing(t *testing.T) {
	s := mustNew(t, calm(16))
	s.Recv(3, open(5, 0, 2))
	for _, peer := range []int{math.MinInt, -1, 16, 17, math.MaxInt} {
		for _, b := range [][]byte{open(6, 0, 2), report(5, 1, 1), ack(5, 0)} {
			wantNothing(t, s, peer, b)
		}
	}
	whole := open(6, 0, 2)
	turned := slices.Clone(whole)
	turned[9] ^= 1
	for _, b := range [][]byte{nil, {}, {77}, whole[1:], whole[:len(whole)-1], append(slices.Clone(whole), 0), turned} {
		wantNothing(t, s, 3, b)
	}
	for code := range 6 {
		wantNothing(t, s, 3, bytesOf(api.Gram{Conn: 5, Kind: api.Reset, Code: code}))
		wantNothing(t, s, 4, bytesOf(api.Gram{Conn: 9, Kind: api.Reset, Code: code}))
	}
	for _, conn := range []int{0, 1<<31 + 1, 1<<32 - 1} {
		for _, b := range [][]byte{open(conn, 0, 2), report(conn, 1, 1), ack(conn, 0), bye(conn, 1)} {
			wantNothing(t, s, 3, b)
			wantNothing(t, s, 4, b)
		}
	}
	wantRecv(t, s, 4, open(1<<31, 1, 2), hears("Open1>2"), "4 A2147483648:1", "4 D2147483648:0/1 Opened", "4 D2147483648:1/1 Route[]0", "4 D2147483648:2/1 Arrived")
}

// P30.2: of no entry

func TestUnknown(t *testing.T) {
	s := mustNew(t, calm(16))
	s.Recv(3, open(5, 0, 2))
	for what, b := range map[string][]byte{
		"an Ack":        ack(7, 0),
		"a Report":      report(7, 0, 1),
		"a Bye":         bye(7, 0),
		"an Opened":     data(7, 0, api.Msg{Kind: api.Opened}),
		"no message":    noise(7, 0),
		"no body":       bytesOf(api.Gram{Conn: 7, Kind: api.Data}),
		"Seq 1":         data(7, 1, api.Msg{Kind: api.Open, Dest: 2}),
		"a later Seq":   data(7, 1<<31, api.Msg{Kind: api.Open, Dest: 2}),
		"one byte more": bytesOf(api.Gram{Conn: 7, Kind: api.Data, Body: []byte{api.Open, 0, 0, 0, 2, 0}}),
	} {
		t.Run(what, func(t *testing.T) {
			// Of a peer that is not there, and of one that is, on another connection.
			wantRecv(t, s, 4, b, nil, "4 X7:2")
			wantRecv(t, s, 3, b, nil, "3 X7:2")
			wantLive(t, s, 3)
		})
	}
	// An elder connection.
	wantRecv(t, s, 3, open(4, 0, 2), nil, "3 X4:2")
	wantRecv(t, s, 3, report(4, 1, 1), nil, "3 X4:2")
	wantRecv(t, s, 3, report(5, 1, 1), hears("Report1"), "3 A5:2", "3 D5:3/2 Arrived")
}

func TestOpenComes(t *testing.T) {
	s := mustNew(t, calm(16))
	wantRecv(t, s, 0, open(2, 3, 2), hears("Open3>2"), "0 A2:1", "0 D2:0/1 Opened", "0 D2:1/1 Route[0 1]5", "0 D2:2/1 Next{3 0 0 5}")
	wantRecv(t, s, 15, open(1, 3, 4), hears("Open3>4"), "15 A1:1", "15 D1:0/1 Opened", "15 D1:1/1 NoRoute")
	wantLive(t, s, 0, 15)
	// It comes once.
	wantRecv(t, s, 0, open(2, 3, 2), nil, "0 A2:1")
	wantRecv(t, s, 0, open(2, 0, 3), nil, "0 A2:1")
}

func TestOpenWithWhatIsClosed(t *testing.T) {
	s := mustNew(t, calm(16))
	s.Close(0, 5)
	wantRecv(t, s, 0, open(1, 3, 2), hears("Open3>2"), "0 A1:1", "0 D1:0/1 Opened", "0 D1:1/1 Route[8]6", "0 D1:2/1 Next{4 8 0 6}")
}

func TestOpenOfASmallWindow(t *testing.T) {
	s := mustNew(t, config(1, 1, 20, 1000, 1000))
	wantRecv(t, s, 0, open(1, 3, 2), hears("Open3>2"), "0 A1:1", "0 D1:0/1 Opened")
	wantRecv(t, s, 0, ack(1, 1), nil, "0 D1:1/1 Route[0 1]5")
	wantRecv(t, s, 0, ack(1, 2), nil, "0 D1:2/1 Next{3 0 0 5}")
	wantRecv(t, s, 0, ack(1, 3), nil)
}

func TestRefused(t *testing.T) {
	s := mustNew(t, calm(16))
	wantRecv(t, s, 3, open(5, 9, 2), nil, "3 X5:4")
	wantRecv(t, s, 3, open(5, 0, 5), nil, "3 X5:4")
	wantRecv(t, s, 3, open(5, 65535, 65535), nil, "3 X5:4")
	wantLive(t, s)
	// Who was refused was not there: the same connection may come.
	wantRecv(t, s, 3, open(5, 1, 2), hears("Open1>2"), "3 A5:1", "3 D5:0/1 Opened", "3 D5:1/1 Route[]0", "3 D5:2/1 Arrived")
	// A refused one does not take an elder one's place.
	wantRecv(t, s, 3, open(6, 9, 2), nil, "3 X6:4")
	wantRecv(t, s, 3, open(5, 1, 2), nil, "3 A5:1")
}

func TestBusy(t *testing.T) {
	s := mustNew(t, calm(2))
	s.Recv(3, open(5, 0, 2))
	s.Recv(1, open(5, 0, 2))
	wantRecv(t, s, 2, open(1, 0, 2), nil, "2 X1:1")
	// Rather than refused.
	wantRecv(t, s, 2, open(1, 9, 2), nil, "2 X1:1")
	wantRecv(t, s, 2, ack(1, 0), nil, "2 X1:2")
	wantLive(t, s, 1, 3)
	// In an elder one's place there is room: without a word to that.
	wantRecv(t, s, 3, open(6, 1, 2), hears("Open1>2"), "3 A6:1", "3 D6:0/1 Opened", "3 D6:1/1 Route[]0", "3 D6:2/1 Arrived")
	wantRecv(t, s, 3, report(5, 1, 1), nil, "3 X5:2")
	// Gone rather than busy, or refused.
	wantRecv(t, s, 3, bye(6, 1), hears("Bye"), "3 A6:2")
	wantRecv(t, s, 2, open(1, 1, 2), hears("Open1>2"), "2 A1:1", "2 D1:0/1 Opened", "2 D1:1/1 Route[]0", "2 D1:2/1 Arrived")
	wantRecv(t, s, 3, open(6, 9, 2), nil, "3 X6:2")
	wantRecv(t, s, 3, open(7, 1, 2), nil, "3 X7:1")
	wantLive(t, s, 1, 2)
}

// P30.2: of an entry

func TestReport(t *testing.T) {
	s := mustNew(t, calm(16))
	s.Recv(3, open(5, 3, 2))
	wantRecv(t, s, 3, report(5, 1, 3), hears("Report3"), "3 A5:2", "3 D5:3/2 Next{3 0 0 5}")
	wantRecv(t, s, 3, report(5, 2, 0), hears("Report0"), "3 A5:3", "3 D5:4/3 Next{3 1 0 3}")
	wantRecv(t, s, 3, report(5, 3, 9), hears("Report9"), "3 A5:4", "3 D5:5/4 Wrong9")
	s.Close(1, 9)
	// With what is closed now.
	wantRecv(t, s, 3, report(5, 4, 3), hears("Report3"), "3 A5:5", "3 D5:8/5 Route[8]6", "3 D5:9/5 Next{4 8 0 6}")
	wantRecv(t, s, 3, report(5, 5, 8), hears("Report8"), "3 A5:6", "3 D5:10/6 Arrived")
	wantRecv(t, s, 3, report(5, 6, 0), hears("Report0"), "3 A5:7")
	wantRecv(t, s, 3, report(5, 6, 0), nil, "3 A5:7")
}

func TestSeveralAtOnce(t *testing.T) {
	s := mustNew(t, calm(16))
	s.Recv(3, open(5, 3, 2))
	wantRecv(t, s, 3, report(5, 3, 1), nil, "3 A5:1")
	wantRecv(t, s, 3, report(5, 2, 0), nil, "3 A5:1")
	// What the Channel tells goes first.
	wantRecv(t, s, 3, report(5, 1, 3), hears("Report3", "Report0", "Report1"), "3 A5:4", "3 D5:3/4 Next{3 0 0 5}", "3 D5:4/4 Next{3 1 0 3}", "3 D5:5/4 Arrived")
}

func TestPacketsOfTheChannelGoFirst(t *testing.T) {
	s := mustNew(t, config(1, 3, 20, 1000, 1000))
	s.Recv(3, open(5, 3, 2))
	wantRecv(t, s, 3, report(5, 1, 3), hears("Report3"), "3 A5:2")
	body, _ := message.Encode(api.Msg{Kind: api.Report, Pos: 0})
	// The datagram acks, too: so what was owed is paid, and then there is room.
	wantRecv(t, s, 3, bytesOf(api.Gram{Conn: 5, Kind: api.Data, Seq: 2, Ack: 2, Body: body}), hears("Report0"), "3 A5:3", "3 D5:3/3 Next{3 0 0 5}", "3 D5:4/3 Next{3 1 0 3}")
}

func TestPassedOver(t *testing.T) {
	s := mustNew(t, calm(16))
	s.Recv(3, open(5, 3, 2))
	seq := 0
	for _, m := range []api.Msg{{Kind: api.Open, Pos: 1, Dest: 2}, {Kind: api.Opened}, {Kind: api.Route}, {Kind: api.NoRoute}, {Kind: api.Next}, {Kind: api.Arrived}, {Kind: api.Wrong, Pos: 1}} {
		seq++
		wantRecv(t, s, 3, data(5, seq, m), nil, fmt.Sprint("3 A5:", seq+1))
	}
	wantRecv(t, s, 3, noise(5, seq+1), nil, fmt.Sprint("3 A5:", seq+2))
	wantRecv(t, s, 3, bytesOf(api.Gram{Conn: 5, Kind: api.Data, Seq: seq + 2}), nil, fmt.Sprint("3 A5:", seq+3))
	// Among others.
	wantRecv(t, s, 3, report(5, seq+5, 0), nil, fmt.Sprint("3 A5:", seq+3))
	wantRecv(t, s, 3, noise(5, seq+4), nil, fmt.Sprint("3 A5:", seq+3))
	wantRecv(t, s, 3, report(5, seq+3, 3), hears("Report3", "Report0"), fmt.Sprint("3 A5:", seq+6), fmt.Sprintf("3 D5:3/%d Next{3 0 0 5}", seq+6), fmt.Sprintf("3 D5:4/%d Next{3 1 0 3}", seq+6))
}

func TestBye(t *testing.T) {
	s := mustNew(t, calm(16))
	s.Recv(3, open(5, 3, 2))
	s.Recv(4, open(5, 3, 2))
	wantRecv(t, s, 3, report(5, 3, 0), nil, "3 A5:1")
	wantRecv(t, s, 3, bye(5, 2), nil, "3 A5:1")
	// What is ahead of it is said; what is behind it is not heard.
	wantRecv(t, s, 3, report(5, 1, 3), hears("Report3", "Bye"), "3 A5:4", "3 D5:3/4 Next{3 0 0 5}")
	wantLive(t, s, 4)
	wantRecv(t, s, 3, bye(5, 2), nil, "3 X5:2")
	wantRecv(t, s, 3, ack(5, 3), nil, "3 X5:2")
	wantRecv(t, s, 3, open(5, 3, 2), nil, "3 X5:2")
	// It was told already that it is gone.
	wantTick(t, s)
	wantClose(t, s, 8, 1)
	wantRecv(t, s, 3, open(6, 1, 2), hears("Open1>2"), "3 A6:1", "3 D6:0/1 Opened", "3 D6:1/1 Route[]0", "3 D6:2/1 Arrived")
}

func TestByeWithWhatIsPaid(t *testing.T) {
	s := mustNew(t, config(1, 1, 20, 1000, 1000))
	s.Recv(3, open(5, 3, 2))
	body, _ := message.Encode(api.Msg{Kind: api.Bye})
	wantRecv(t, s, 3, bytesOf(api.Gram{Conn: 5, Kind: api.Data, Seq: 1, Ack: 1, Body: body}), hears("Bye"), "3 A5:2", "3 D5:1/2 Route[0 1]5")
	wantLive(t, s)
}

// P30.2, P30.3: heard from

// idle is a Server, and its entry of an Open at 0, that is gone at 10, unless it is heard from.
func idle(t *testing.T) *Server {
	s := mustNew(t, config(4, 16, 20, 1000, 10))
	s.Recv(3, open(5, 3, 2))
	return s
}

// ticks lets so many ticks go by with which nothing goes out.
func ticks(t *testing.T, s *Server, n int) {
	t.Helper()
	for range n {
		wantTick(t, s)
	}
}

func TestIdle(t *testing.T) {
	s := idle(t)
	ticks(t, s, 9)
	wantLive(t, s, 3)
	wantTick(t, s, "3 X5:3")
	wantLive(t, s)
	ticks(t, s, 12)
	wantRecv(t, s, 3, open(5, 3, 2), nil, "3 X5:2")
	// Last is the tick of the Open.
	s.Recv(3, open(6, 3, 2))
	ticks(t, s, 9)
	wantTick(t, s, "3 X6:3")
}

func TestHeardFrom(t *testing.T) {
	s := idle(t)
	for seq, b := range [][]byte{1: report(5, 1, 3), 2: noise(5, 2), 3: data(5, 3, api.Msg{Kind: api.Open}), 4: data(5, 4, api.Msg{Kind: api.Arrived})} {
		if b == nil {
			continue
		}
		ticks(t, s, 9)
		s.Recv(3, b)
		wantLive(t, s, 3)
		if seq == 4 {
			ticks(t, s, 9)
			wantTick(t, s, "3 X5:3")
		}
	}
}

func TestNotHeardFrom(t *testing.T) {
	s := idle(t)
	ticks(t, s, 9)
	// Nothing is got by these.
	wantRecv(t, s, 3, ack(5, 3), nil)
	wantRecv(t, s, 3, open(5, 3, 2), nil, "3 A5:1")
	wantRecv(t, s, 3, report(5, 2, 3), nil, "3 A5:1")
	wantRecv(t, s, 3, open(4, 3, 2), nil, "3 X4:2")
	wantTick(t, s, "3 X5:3")
}

// P30.3

func TestSentAgainTillLost(t *testing.T) {
	s := mustNew(t, config(4, 2, 1, 4, 100))
	s.Recv(2, open(1, 3, 2))
	s.Recv(1, open(9, 1, 2))
	ticks(t, s, 3)
	wantTick(t, s, "1 D9:0/1 Opened", "1 D9:1/1 Route[]0", "2 D1:0/1 Opened", "2 D1:1/1 Route[0 1]5")
	wantRecv(t, s, 2, ack(1, 1), nil, "2 D1:2/1 Next{3 0 0 5}")
	ticks(t, s, 3)
	wantTick(t, s, "1 X9:3", "2 X1:3")
	wantLive(t, s)
	ticks(t, s, 5)
}

func TestOrderOfATick(t *testing.T) {
	// At 4 edges open, all is sent again, and both were not heard from for too long.
	s := mustNew(t, config(4, 16, 20, 4, 4))
	for _, edge := range []int{8, 1, 6} {
		wantClose(t, s, edge, 4)
	}
	s.Recv(2, open(1, 0, 2))
	s.Recv(1, open(7, 0, 2))
	ticks(t, s, 3)
	wantTick(t, s,
		"1 D7:2/1 Route[1]3", "1 D7:3/1 Next{3 1 0 3}", "2 D1:2/1 Route[1]3", "2 D1:3/1 Next{3 1 0 3}",
		"1 D7:0/1 Opened", "1 D7:1/1 NoRoute", "2 D1:0/1 Opened", "2 D1:1/1 NoRoute",
		"1 X7:3", "2 X1:3")
}

func TestLapse(t *testing.T) {
	s := mustNew(t, calm(4))
	s.Recv(2, open(1, 3, 2))
	wantClose(t, s, 1, 2, "2 D1:3/1 Route[8]6", "2 D1:4/1 Next{4 8 0 6}")
	wantClose(t, s, 8, 3, "2 D1:5/1 Route[7 6]9", "2 D1:6/1 Next{5 7 0 9}")
	wantClose(t, s, 6, 5, "2 D1:7/1 NoRoute")
	ticks(t, s, 1)
	wantClosed(t, s, api.Shut{Edge: 1, Until: 2}, api.Shut{Edge: 6, Until: 5}, api.Shut{Edge: 8, Until: 3})
	wantTick(t, s, "2 D1:8/1 Route[0 1]5", "2 D1:9/1 Next{3 0 0 5}")
	ticks(t, s, 2)
	wantClosed(t, s, api.Shut{Edge: 6, Until: 5})
	ticks(t, s, 1)
	wantClosed(t, s)
}

// P30.4

func TestCloseRefuses(t *testing.T) {
	s := mustNew(t, calm(4))
	s.Recv(2, open(1, 3, 2))
	for _, edge := range []int{math.MinInt, -1, 9, 10, math.MaxInt} {
		if out, e := s.Close(edge, 1); len(out) != 0 || e != api.ErrArg {
			t.Errorf("Close(%d, 1) = %v, %d", edge, out, e)
		}
		if out, e := s.Open(edge); len(out) != 0 || e != api.ErrArg {
			t.Errorf("Open(%d) = %v, %d", edge, out, e)
		}
	}
	for _, n := range []int{math.MinInt, -1, 0, 1<<20 + 1, math.MaxInt} {
		if out, e := s.Close(1, n); len(out) != 0 || e != api.ErrArg {
			t.Errorf("Close(1, %d) = %v, %d", n, out, e)
		}
	}
	wantClosed(t, s)
	ticks(t, s, 3)
	wantClose(t, s, 2, 1<<20)
	wantClose(t, s, 3, 1)
	wantClosed(t, s, api.Shut{Edge: 2, Until: 1<<20 + 3}, api.Shut{Edge: 3, Until: 4})
}

func TestCloseAndOpen(t *testing.T) {
	s := mustNew(t, calm(4))
	s.Recv(2, open(1, 3, 2))
	s.Recv(1, open(1, 0, 2))
	s.Recv(0, open(1, 1, 2))
	s.Recv(3, open(1, 6, 1))
	// By Peer; who has arrived, or does not come by there, hears nothing.
	wantClose(t, s, 1, 9, "1 D1:3/1 Route[4 8]8", "1 D1:4/1 Next{5 4 0 8}", "2 D1:3/1 Route[8]6", "2 D1:4/1 Next{4 8 0 6}")
	// It is closed already: till another time, and nobody is told.
	wantClose(t, s, 1, 3)
	wantClosed(t, s, api.Shut{Edge: 1, Until: 3})
	wantClose(t, s, 4, 9, "1 D1:5/1 NoRoute")
	wantOpen(t, s, 5)
	wantOpen(t, s, 1, "1 D1:6/1 Route[1]3", "1 D1:7/1 Next{3 1 0 3}")
	wantOpen(t, s, 1)
	wantClosed(t, s, api.Shut{Edge: 4, Until: 9})
}

// P30.4: lost

// full is a Server with two entries, one of which has just as much to say as may wait: at the next Seq 63 that is too much.
func full(t *testing.T) *Server {
	t.Helper()
	s := mustNew(t, config(4, 1, 20, 900, 900))
	s.Recv(4, open(1, 1, 2))
	wantRecv(t, s, 3, open(5, 3, 2), hears("Open3>2"), "3 A5:1", "3 D5:0/1 Opened")
	for seq := 1; seq <= 62; seq++ {
		wantRecv(t, s, 3, report(5, seq, 3), hears("Report3"), fmt.Sprint("3 A5:", seq+1))
	}
	return s
}

func TestNotLost(t *testing.T) {
	s := full(t)
	ticks(t, s, 3)
	wantLive(t, s, 3, 4)
	// Room again.
	wantRecv(t, s, 3, ack(5, 1), nil, "3 D5:1/63 Route[0 1]5")
	wantRecv(t, s, 3, report(5, 63, 0), hears("Report0"), "3 A5:64")
	ticks(t, s, 3)
}

func TestLostByAReport(t *testing.T) {
	s := full(t)
	wantRecv(t, s, 3, report(5, 63, 3), hears("Report3"), "3 A5:64")
	wantLive(t, s, 3, 4)
	// It is heard, and what waits is paid, but nothing is said any more, though there is room.
	wantRecv(t, s, 3, ack(5, 1), nil, "3 D5:1/64 Route[0 1]5")
	wantRecv(t, s, 3, report(5, 64, 9), hears("Report9"), "3 A5:65")
	wantClose(t, s, 1, 9)
	for n := 2; n <= 64; n++ {
		wantRecv(t, s, 3, ack(5, n), nil, fmt.Sprintf("3 D5:%d/65 Next{3 0 0 5}", n))
	}
	wantRecv(t, s, 3, ack(5, 65), nil)
	wantTick(t, s, "3 X5:3")
	wantLive(t, s, 4)
}

func TestLostByCloseAndOpen(t *testing.T) {
	s := full(t)
	wantClose(t, s, 1, 9)
	wantTick(t, s, "3 X5:3")
	s = full(t)
	// Of the two that are said one finds room.
	wantRecv(t, s, 3, ack(5, 1), nil, "3 D5:1/63 Route[0 1]5")
	wantClose(t, s, 1, 9)
	wantLive(t, s, 3, 4)
	wantTick(t, s, "3 X5:3")
	s = mustNew(t, config(4, 1, 20, 900, 900))
	for _, edge := range []int{1, 6, 8} {
		s.Close(edge, 5)
	}
	s.Recv(3, open(5, 3, 2))
	for seq := 1; seq <= 63; seq++ {
		wantRecv(t, s, 3, report(5, seq, 3), hears("Report3"), fmt.Sprint("3 A5:", seq+1))
	}
	wantOpen(t, s, 6)
	wantTick(t, s, "3 X5:3")
	wantLive(t, s)
}

func TestLostByALapse(t *testing.T) {
	s := mustNew(t, config(4, 1, 20, 900, 900))
	for _, edge := range []int{1, 6, 8} {
		s.Close(edge, 5)
	}
	s.Recv(3, open(5, 3, 2))
	for seq := 1; seq <= 63; seq++ {
		s.Recv(3, report(5, seq, 3))
	}
	ticks(t, s, 4)
	wantTick(t, s, "3 X5:3")
}

func TestLostAreSentOnceMore(t *testing.T) {
	s := mustNew(t, config(4, 1, 20, 1, 900))
	s.Recv(3, open(5, 3, 2))
	for seq := 1; seq <= 63; seq++ {
		s.Recv(3, report(5, seq, 3))
	}
	wantTick(t, s, "3 D5:0/64 Opened", "3 X5:3")
	wantTick(t, s)
}

func TestWhoIsNewIsNotLost(t *testing.T) {
	s := full(t)
	s.Recv(3, report(5, 63, 3))
	wantRecv(t, s, 3, open(6, 3, 2), hears("Open3>2"), "3 A6:1", "3 D6:0/1 Opened")
	ticks(t, s, 5)
	wantRecv(t, s, 3, ack(6, 1), nil, "3 D6:1/1 Route[0 1]5")
	// Who is lost can go, too.
	s = full(t)
	s.Recv(3, report(5, 63, 3))
	wantRecv(t, s, 3, bye(5, 64), hears("Bye"), "3 A5:65")
	wantLive(t, s, 4)
	ticks(t, s, 5)
}

// P30.5

// anything is bytes that may come from anybody.
func anything(r *rand.Rand) []byte {
	conn, seq := 1+r.Intn(6), r.Intn(5)
	switch r.Intn(9) {
	case 0, 1, 2:
		return open(conn, r.Intn(10), r.Intn(6))
	case 3:
		return bye(conn, seq)
	case 4:
		return ack(conn, seq)
	case 5:
		b := noise(conn, seq)
		b[r.Intn(len(b))] ^= byte(r.Intn(2))
		return b
	case 6:
		return bytesOf(api.Gram{Conn: conn, Kind: api.Reset, Code: seq})
	}
	return report(conn, seq, r.Intn(10))
}

func TestNeverMoreThanSessions(t *testing.T) {
	r := rand.New(rand.NewSource(30))
	fullOnes := 0
	for range 60 {
		most := 1 + r.Intn(5)
		s := mustNew(t, config(most, 1+r.Intn(4), r.Intn(4), 1+r.Intn(5), 1+r.Intn(30)))
		greatest := 0
		for range 300 {
			live := s.Live()
			greatest = max(greatest, len(live))
			if len(live) > most || !slices.IsSorted(live) || len(slices.Compact(live)) != len(s.Live()) {
				t.Fatalf("there are %v, of %d", s.Live(), most)
			}
			var out []Packet
			switch r.Intn(10) {
			case 0:
				out = s.Tick()
			case 1:
				out, _ = s.Close(r.Intn(9), 1+r.Intn(20))
			case 2:
				out, _ = s.Open(r.Intn(9))
			default:
				peer := r.Intn(8)
				var heard []api.Heard
				out, heard = s.Recv(peer, anything(r))
				for _, h := range heard {
					if h.D != peer || !h.Up || h.Msg.Kind < api.Open || h.Msg.Kind > api.Bye {
						t.Fatalf("heard %+v", h)
					}
				}
			}
			for _, p := range short(out) {
				if p[len(p)-1] == '?' {
					t.Fatalf("out %s", p)
				}
			}
		}
		if greatest == most {
			fullOnes++
		}
	}
	if fullOnes < 40 {
		t.Errorf("of 60 but %d were full", fullOnes)
	}
}

func TestTheSameAgain(t *testing.T) {
	for seed := range int64(20) {
		played := func() []string {
			r := rand.New(rand.NewSource(seed))
			s := mustNew(t, config(3, 2, 3, 2, 20))
			var all []string
			for range 200 {
				out, _ := s.Recv(r.Intn(6), anything(r))
				all = slices.Concat(all, short(out), short(s.Tick()))
			}
			return all
		}
		if !slices.Equal(played(), played()) {
			t.Fatal("not the same")
		}
	}
}

func TestArgumentsAndAnswers(t *testing.T) {
	p := square()
	s, _ := New(p, calm(4))
	sample.OverwriteGraph(p)
	b := append(open(5, 3, 2), 99, 99)
	whole := b[:len(b)-2]
	out, heard := s.Recv(3, whole)
	if !slices.Equal(whole, open(5, 3, 2)) || b[len(b)-1] != 99 {
		t.Errorf("an argument was changed: %v", b)
	}
	sample.Overwrite(whole, 77)
	for _, x := range out {
		sample.Overwrite(x.Data, 77)
	}
	sample.Overwrite(out, Packet{Peer: 77})
	sample.Overwrite(heard, api.Heard{D: 77})
	sample.Overwrite(s.Live(), 77)
	s.Close(7, 9)
	sample.Overwrite(s.Closed(), api.Shut{Edge: 77})
	wantLive(t, s, 3)
	wantClosed(t, s, api.Shut{Edge: 7, Until: 9})
	wantRecv(t, s, 3, report(5, 1, 3), hears("Report3"), "3 A5:2", "3 D5:3/2 Next{3 0 0 5}")
	for range 999 {
		s.Tick()
	}
	wantTick(t, s, "3 D5:0/2 Opened", "3 D5:1/2 Route[0 1]5", "3 D5:2/2 Next{3 0 0 5}", "3 D5:3/2 Next{3 0 0 5}", "3 X5:3")
}
