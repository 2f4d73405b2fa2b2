package script

import (
	"bytes"
	"fmt"
	"math"
	"math/rand"
	"reflect"
	"slices"
	"testing"

	"milepost/api"
	"milepost/file"
	"milepost/gram"
	"milepost/message"
	"milepost/sample"
	"milepost/world"
)

// config is one of which each number is another one.
func config() api.Config {
	return api.Config{Sessions: 1, Window: 2, Retry: 3, Base: 4, Cap: 261, Idle: 999}
}

// two is a Script of two nodes, two edges, two drivers and such events.
func two(events ...api.Event) Script {
	return Script{
		Graph:   api.Graph{Nodes: []api.Node{{X: 0, Y: 0}, {X: 5, Y: 0}}, Edges: []api.Edge{{From: 0, To: 1, W: 3}, {From: 1, To: 0, W: 4}}},
		Config:  config(),
		Drivers: 2,
		Events:  events,
	}
}

// twoEvents is a Start, and noise.
func twoEvents() []api.Event {
	return []api.Event{{Kind: api.Start, D: 1, N: 1, M: 258}, {Kind: api.Noise, D: 200, Raw: []byte{5, 6}}}
}

// Where things stand in twoBytes: its graph, what is behind it, its events.
const (
	graphAt  = 4
	configAt = graphAt + 34
	eventsAt = configAt + 12
)

// twoBytes is what two with twoEvents is written as.
func twoBytes() []byte {
	roads, _ := file.Encode(two().Graph)
	all := append([]byte{0, 0, 0, 34}, roads...)
	all = append(all, 1, 2, 3, 0, 4, 1, 5, 3, 231, 2, 0, 2)
	return append(all, 7, 1, 0, 1, 1, 2, 0, 11, 200, 0, 0, 0, 0, 2, 5, 6)
}

// ticks is so many.
func ticks(n int) []api.Event { return slices.Repeat([]api.Event{{Kind: api.Tick}}, n) }

// same tells whether two Scripts are the same, nil and empty lists being alike.
func same(a, b Script) bool { return fmt.Sprint(a) == fmt.Sprint(b) }

// mustEncode is what a Script that may be is written as.
func mustEncode(t *testing.T, s Script) []byte {
	t.Helper()
	b, e := Encode(s)
	if e != api.OK {
		t.Fatalf("Encode(%v): %d", s, e)
	}
	return b
}

// wantDecoded asks that b is read as s.
func wantDecoded(t *testing.T, what string, b []byte, s Script) {
	t.Helper()
	if got, e := Decode(b); !same(got, s) || e != api.OK {
		t.Errorf("%s: Decode = %v, %d; want %v", what, got, e, s)
	}
}

// wantRefused asks that b is no Script's bytes.
func wantRefused(t *testing.T, what string, b []byte) {
	t.Helper()
	if s, e := Decode(b); !reflect.DeepEqual(s, Script{}) || e != api.ErrBad {
		t.Errorf("%s: Decode = %v, %d; want nothing, %d", what, s, e, api.ErrBad)
	}
}

// wantMay asks that a Script may be, and is written and read.
func wantMay(t *testing.T, what string, s Script) {
	t.Helper()
	if e := Check(s); e != api.OK {
		t.Errorf("%s: Check = %d", what, e)
	}
	wantDecoded(t, what, mustEncode(t, s), s)
}

// wantMayNot asks that a Script is refused by all.
func wantMayNot(t *testing.T, what string, s Script) {
	t.Helper()
	if e := Check(s); e != api.ErrArg {
		t.Errorf("%s: Check = %d", what, e)
	}
	if b, e := Encode(s); len(b) != 0 || e != api.ErrArg {
		t.Errorf("%s: Encode = %v, %d", what, b, e)
	}
	if heard, e := Run(s); len(heard) != 0 || e != api.ErrArg {
		t.Errorf("%s: Run = %v, %d", what, heard, e)
	}
}

func ExampleDecode() {
	_, e := Decode(nil)
	fmt.Println(e == api.ErrBad)
	// Output: true
}

// P33.1

func TestWhatAWorldRefuses(t *testing.T) {
	wantMay(t, "no events", two())
	wantMay(t, "a great graph", Script{Graph: sample.Graph(rand.New(rand.NewSource(331)).Intn, 256, 512), Config: config(), Drivers: 1})
	for _, n := range []int{1, 16} {
		s := two()
		s.Drivers = n
		wantMay(t, fmt.Sprint(n, " drivers"), s)
	}
	for _, n := range []int{math.MinInt, -1, 0, 17, 256 + 1, math.MaxInt} {
		s := two()
		s.Drivers = n
		wantMayNot(t, fmt.Sprint(n, " drivers"), s)
	}
	for what, g := range map[string]api.Graph{
		"no graph":     {},
		"257 nodes":    sample.Loops(257, 0, 0),
		"513 edges":    sample.Loops(1, 513, 0),
		"1025 bans":    sample.Loops(1, 512, 1025),
		"a bad weight": {Nodes: make([]api.Node, 1), Edges: make([]api.Edge, 1)},
	} {
		s := two()
		s.Graph = g
		wantMayNot(t, what, s)
	}
	for what, spoil := range map[string]func(c *api.Config){
		"no Config": func(c *api.Config) { *c = api.Config{} },
		"Sessions":  func(c *api.Config) { c.Sessions = 17 },
		"Window":    func(c *api.Config) { c.Window = 0 },
		"Retry":     func(c *api.Config) { c.Retry = 21 },
		"Base":      func(c *api.Config) { c.Base = 262 },
		"Cap":       func(c *api.Config) { c.Cap = 1001 },
		"Idle":      func(c *api.Config) { c.Idle = -1 },
	} {
		s := two()
		spoil(&s.Config)
		wantMayNot(t, what, s)
	}
}

// A graph of which a World takes long to build is checked, written and read in no time all the same: else this would take minutes.
func TestNoWorldIsBuilt(t *testing.T) {
	s := Script{Graph: sample.Loops(1, 512, 0), Config: config(), Drivers: 1, Events: twoEvents()}
	for range 20 {
		wantMay(t, "loops", s)
	}
}

func TestHowManyEvents(t *testing.T) {
	wantMay(t, "1000 events", two(ticks(1000)...))
	wantMayNot(t, "1001 events", two(ticks(1001)...))
	wantMayNot(t, "65536 events", two(ticks(65536)...))
}

func TestWhichEvents(t *testing.T) {
	for kind := 1; kind <= 11; kind++ {
		wantMay(t, fmt.Sprint("kind ", kind), two(api.Event{Kind: kind}))
	}
	for _, n := range []int{0, 255} {
		wantMay(t, fmt.Sprint("D ", n), two(api.Event{Kind: api.Tick, D: n}))
	}
	for _, n := range []int{0, 256, 65535} {
		wantMay(t, fmt.Sprint("N ", n), two(api.Event{Kind: api.Tick, N: n}))
		wantMay(t, fmt.Sprint("M ", n), two(api.Event{Kind: api.Tick, M: n}))
	}
	for _, n := range []int{0, 1, 199, 200} {
		wantMay(t, fmt.Sprint(n, " bytes"), two(api.Event{Kind: api.Noise, Raw: bytes.Repeat([]byte{9}, n)}))
		// Raw may be there whatever the kind.
		wantMay(t, fmt.Sprint(n, " bytes of a Tick"), two(api.Event{Kind: api.Tick, Raw: bytes.Repeat([]byte{9}, n)}))
	}
	// alone, the first one, and the last one
	mayNot := func(what string, e api.Event) {
		t.Helper()
		wantMayNot(t, what, two(e))
		wantMayNot(t, what+", ahead of others", two(append([]api.Event{e}, ticks(9)...)...))
		wantMayNot(t, what+", behind others", two(append(ticks(9), e)...))
	}
	for _, n := range []int{math.MinInt, -1, 0, 12, 255, 256 + 1, math.MaxInt} {
		mayNot(fmt.Sprint("kind ", n), api.Event{Kind: n})
	}
	for _, n := range []int{math.MinInt, -1, 256, math.MaxInt} {
		mayNot(fmt.Sprint("D ", n), api.Event{Kind: api.Start, D: n})
	}
	for _, n := range []int{math.MinInt, -1, 65536, math.MaxInt} {
		mayNot(fmt.Sprint("N ", n), api.Event{Kind: api.Deliver, N: n})
		mayNot(fmt.Sprint("M ", n), api.Event{Kind: api.Close, M: n})
	}
	for _, n := range []int{201, 255, 256, 65536} {
		mayNot(fmt.Sprint(n, " bytes"), api.Event{Kind: api.Noise, Raw: make([]byte, n)})
	}
}

// P33.2

func TestEncodeIsAsWritten(t *testing.T) {
	if got, want := mustEncode(t, two(twoEvents()...)), twoBytes(); !bytes.Equal(got, want) {
		t.Errorf("\n got %v\nwant %v", got, want)
	}
	if got, want := mustEncode(t, two()), append(twoBytes()[:eventsAt-1], 0); !bytes.Equal(got, want) {
		t.Errorf("no events:\n got %v\nwant %v", got, want)
	}
	// More than 255 bytes of a graph, and more than 255 events.
	s := two(ticks(1000)...)
	s.Graph = sample.Loops(256, 512, 1024)
	roads, _ := file.Encode(s.Graph)
	got := mustEncode(t, s)
	n := len(roads)
	if !bytes.Equal(got[:4], []byte{0, 0, byte(n >> 8), byte(n)}) || !bytes.Equal(got[4:4+n], roads) {
		t.Error("a great graph is not as it is written")
	}
	if rest := got[4+n:]; len(rest) != 12+7*1000 || !bytes.Equal(rest[10:20], []byte{3, 232, 4, 0, 0, 0, 0, 0, 0, 4}) {
		t.Errorf("%d bytes behind it: %v ..", len(rest), rest[:20])
	}
}

func TestDecodeReadsWhatIsWritten(t *testing.T) {
	wantDecoded(t, "two events", twoBytes(), two(twoEvents()...))
	wantDecoded(t, "no events", append(twoBytes()[:eventsAt-1], 0), two())
	odd := twoBytes()
	odd[configAt+9] = 16
	s := two(twoEvents()...)
	s.Drivers = 16
	wantDecoded(t, "16 drivers", odd, s)
	odd[eventsAt+1] = 255
	s.Events[0].D = 255
	wantDecoded(t, "D 255", odd, s)
}

func TestDecodeRefusesWhatIsCutOrGoesOn(t *testing.T) {
	wantRefused(t, "nothing", nil)
	wantRefused(t, "empty", []byte{})
	whole := twoBytes()
	for n := range whole {
		wantRefused(t, fmt.Sprint("cut at ", n), whole[:n])
	}
	for _, more := range []byte{0, 4, 255} {
		wantRefused(t, "a byte too much", append(twoBytes(), more))
	}
	wantRefused(t, "twice", append(twoBytes(), twoBytes()...))
}

func TestDecodeRefusesWhatMayNotBe(t *testing.T) {
	odd := func(what string, at int, b ...byte) {
		t.Helper()
		all := twoBytes()
		copy(all[at:], b)
		wantRefused(t, what, all)
	}
	odd("a graph of 0 bytes", 0, 0, 0, 0, 0)
	odd("a graph of 33 bytes", 3, 33)
	odd("a graph of 35 bytes", 3, 35)
	odd("a graph of far too many bytes", 0, 255, 255, 255, 255)
	odd("no graph", graphAt, 'X')
	odd("a graph's number", graphAt+20, 77)
	odd("a graph's sum", configAt-1, 0)
	odd("no Sessions", configAt, 0)
	odd("17 Sessions", configAt, 17)
	odd("a window of 17", configAt+1, 17)
	odd("21 tries", configAt+2, 21)
	odd("no Base", configAt+3, 0, 0)
	odd("a Cap below Base", configAt+5, 0, 3)
	odd("Idle of 1001", configAt+7, 3, 233)
	odd("no drivers", configAt+9, 0)
	odd("17 drivers", configAt+9, 17)
	odd("no events, but bytes of these", configAt+10, 0, 0)
	odd("one event, but bytes of two", configAt+10, 0, 1)
	odd("three events, but bytes of two", configAt+10, 0, 3)
	odd("65535 events", configAt+10, 255, 255)
	odd("kind 0", eventsAt, 0)
	odd("kind 12", eventsAt, 12)
	odd("raw that goes on", eventsAt+6, 1)
	odd("raw that is cut", eventsAt+13, 1)
	odd("raw that is too long", eventsAt+13, 3)
	// What would be whole, but is too much.
	long := append(twoBytes()[:eventsAt+13], 201)
	wantRefused(t, "201 bytes", append(long, make([]byte, 201)...))
	long[eventsAt+13] = 200
	wantDecoded(t, "200 bytes", append(long, make([]byte, 200)...), two(twoEvents()[0], api.Event{Kind: api.Noise, D: 200, Raw: make([]byte, 200)}))
	many := append(twoBytes()[:eventsAt-2], 3, 233)
	for range 1001 {
		many = append(many, 4, 0, 0, 0, 0, 0, 0)
	}
	wantRefused(t, "1001 events", many)
	many[eventsAt-1] = 232
	wantDecoded(t, "1000 events", many[:len(many)-7], two(ticks(1000)...))
	// A graph that may not be, though its sum is right.
	none := sample.Summed('M', 'I', 'L', 'E', 0, 0, 0, 0, 0, 0)
	rest := twoBytes()[configAt:]
	wantRefused(t, "no nodes", append(append([]byte{0, 0, 0, byte(len(none))}, none...), rest...))
}

// Whatever bytes are taken, they are what Encode makes of what they were read as.
func TestDecodeTakesNothingElse(t *testing.T) {
	r := rand.New(rand.NewSource(332))
	taken := 0
	for range 20000 {
		b := twoBytes()
		for range 1 + r.Intn(2) {
			b[r.Intn(len(b))] = byte(r.Intn(256))
		}
		s, e := Decode(b)
		switch {
		case e != api.OK:
			wantRefused(t, "turned", b)
		case !bytes.Equal(mustEncode(t, s), b):
			t.Fatalf("%v is read as %v", b, s)
		default:
			taken++
		}
	}
	if taken < 100 {
		t.Errorf("but %d were taken", taken)
	}
	for range 2000 {
		b := make([]byte, r.Intn(200))
		r.Read(b)
		wantRefused(t, "noise", b)
	}
}

// lively is a Script in which much is done.
func lively(r *rand.Rand) Script {
	s := Script{
		Graph:   sample.Ties(r.Intn, 2+r.Intn(8), 3+r.Intn(20)),
		Config:  api.Config{Sessions: 1 + r.Intn(4), Window: 1 + r.Intn(6), Retry: r.Intn(8), Base: 1 + r.Intn(4), Cap: 4 + r.Intn(9), Idle: 20 + r.Intn(80)},
		Drivers: 1 + r.Intn(4),
	}
	for range r.Intn(400) {
		e := api.Event{Kind: []int{1, 1, 1, 1, 1, 1, 2, 3, 4, 5, 6, 7, 8, 9, 9, 9, 10, 11}[r.Intn(18)], D: r.Intn(s.Drivers + 1), N: r.Intn(20), M: r.Intn(20)}
		switch e.Kind {
		case api.Start:
			e.N %= len(s.Graph.Nodes)
		case api.Noise:
			body, _ := message.Encode(api.Msg{Kind: 1 + r.Intn(3), Pos: r.Intn(9), Dest: r.Intn(9)})
			e.Raw, _ = gram.Encode(api.Gram{Kind: api.Data, Conn: 1 + r.Intn(4), Seq: r.Intn(3), Body: body})
		}
		s.Events = append(s.Events, e)
	}
	return s
}

func TestRunIsWhatAWorldTells(t *testing.T) {
	r := rand.New(rand.NewSource(333))
	total := 0
	for range 60 {
		s := lively(r)
		heard, e := Run(s)
		w, _ := world.New(s.Graph, s.Config, s.Drivers)
		if want := w.Do(s.Events...); e != api.OK || !reflect.DeepEqual(heard, want) {
			t.Fatalf("Run = %v, %d; want %v", heard, e, want)
		}
		total += len(heard)
	}
	if total < 500 {
		t.Errorf("but %d were heard", total)
	}
	if heard, e := Run(two()); len(heard) != 0 || e != api.OK {
		t.Errorf("no events: %v, %d", heard, e)
	}
}

// P33.3

func TestWhatIsWrittenIsReadAsItWas(t *testing.T) {
	r := rand.New(rand.NewSource(334))
	for range 100 {
		s := lively(r)
		b := mustEncode(t, s)
		wantDecoded(t, "lively", b, s)
		// It does the same.
		again, _ := Decode(b)
		one, _ := Run(s)
		if two, e := Run(again); e != api.OK || !reflect.DeepEqual(one, two) {
			t.Fatalf("Run of what was read: %v, %d; want %v", two, e, one)
		}
	}
}

func TestNewMemory(t *testing.T) {
	s, want := two(twoEvents()...), two(twoEvents()...)
	b := mustEncode(t, s)
	sample.Overwrite(b, 0)
	if !same(s, want) {
		t.Errorf("the Script was changed: %v", s)
	}
	b = twoBytes()
	got, _ := Decode(b)
	if !bytes.Equal(b, twoBytes()) {
		t.Error("the bytes were changed")
	}
	sample.Overwrite(b, 0)
	if !same(got, want) {
		t.Errorf("what was read was kept in the bytes: %v", got)
	}
	sample.OverwriteGraph(got.Graph)
	for _, e := range got.Events {
		sample.Overwrite(e.Raw, 0)
	}
	sample.Overwrite(got.Events, api.Event{})
	wantDecoded(t, "once more", twoBytes(), want)
	s = lively(rand.New(rand.NewSource(335)))
	was := fmt.Sprint(s)
	Run(s)
	if fmt.Sprint(s) != was {
		t.Error("Run changed the Script")
	}
}
