package channel

import (
	"fmt"
	"math"
	"math/rand"
	"reflect"
	"slices"
	"testing"

	"milepost/api"
	"milepost/sample"
)

// config is one of a window, and so many tries each so many ticks.
func config(window, retry, base int) api.Config {
	return api.Config{Sessions: 1, Window: window, Retry: retry, Base: base, Cap: base, Idle: 1}
}

// mustNew is the Channel of connection 5.
func mustNew(t *testing.T, window, retry, base int) *Channel {
	t.Helper()
	x, e := New(config(window, retry, base), 5)
	if x == nil || e != api.OK {
		t.Fatalf("New of (%d, %d, %d): %v, %d", window, retry, base, x, e)
	}
	return x
}

// data is a datagram with a body.
func data(seq, ack int, body ...byte) api.Gram {
	return api.Gram{Conn: 5, Kind: api.Data, Seq: seq, Ack: ack, Body: body}
}

// ack is one without.
func ack(n int) api.Gram { return api.Gram{Conn: 5, Kind: api.Ack, Ack: n} }

// sameGrams tells whether two lists are the same; no body is as an empty one.
func sameGrams(a, b []api.Gram) bool {
	return slices.EqualFunc(a, b, func(x, y api.Gram) bool {
		isSame := slices.Equal(x.Body, y.Body)
		x.Body, y.Body = nil, nil
		return isSame && reflect.DeepEqual(x, y)
	})
}

// wantPush asks what goes out with a body.
func wantPush(t *testing.T, x *Channel, now int, body []byte, want ...api.Gram) {
	t.Helper()
	if got, e := x.Push(now, body...); e != api.OK || !sameGrams(got, want) {
		t.Errorf("Push(%d, %v) = %v, %d; want %v", now, body, got, e, want)
	}
}

// wantNoPush asks why a body is refused.
func wantNoPush(t *testing.T, x *Channel, now int, why api.Errno) {
	t.Helper()
	owed := x.Owed()
	if got, e := x.Push(now, 9); e != why || len(got) != 0 || x.Owed() != owed {
		t.Errorf("Push(%d) = %v, %d, Owed %d; want %d, %d", now, got, e, x.Owed(), why, owed)
	}
}

// wantRecv asks what is got by a datagram, and what goes out.
func wantRecv(t *testing.T, x *Channel, now int, g api.Gram, got [][]byte, out ...api.Gram) {
	t.Helper()
	g1, o1 := x.Recv(now, g)
	if !slices.EqualFunc(g1, got, slices.Equal) || !sameGrams(o1, out) {
		t.Errorf("Recv(%d, %v) = %v, %v; want %v, %v", now, g, g1, o1, got, out)
	}
}

// wantPass asks what goes out with time.
func wantPass(t *testing.T, x *Channel, now int, want ...api.Gram) {
	t.Helper()
	if got, e := x.Pass(now); e != api.OK || !sameGrams(got, want) {
		t.Errorf("Pass(%d) = %v, %d; want %v", now, got, e, want)
	}
}

// wantGone asks that it is over.
func wantGone(t *testing.T, x *Channel, now int) {
	t.Helper()
	if got, e := x.Pass(now); e != api.ErrGone || len(got) != 0 {
		t.Errorf("Pass(%d) = %v, %d", now, got, e)
	}
	wantNoPush(t, x, now, api.ErrGone)
	wantRecv(t, x, now, data(0, 0, 1), nil)
	wantRecv(t, x, now, ack(0), nil)
}

// bodies are some, each of one byte.
func bodies(all ...byte) [][]byte {
	var out [][]byte
	for _, b := range all {
		out = append(out, []byte{b})
	}
	return out
}

func ExampleChannel_Push() {
	c, _ := New(api.Config{Sessions: 1, Window: 1, Retry: 3, Base: 2, Cap: 5, Idle: 9}, 7)
	first, _ := c.Push(0, 1)
	second, _ := c.Push(0, 2)
	_, out := c.Recv(1, api.Gram{Conn: 7, Kind: api.Ack, Ack: 1})
	fmt.Println(len(first), len(second), out[0].Seq, out[0].Body)
	// Output: 1 0 1 [2]
}

// P27.1

func TestCheck(t *testing.T) {
	good := api.Config{Sessions: 3, Window: 4, Retry: 5, Base: 6, Cap: 7, Idle: 8}
	for what, c := range map[string]struct {
		set         func(c *api.Config, n int)
		least, most int
	}{
		"Sessions": {func(c *api.Config, n int) { c.Sessions = n }, 1, 16},
		"Window":   {func(c *api.Config, n int) { c.Window = n }, 1, 16},
		"Retry":    {func(c *api.Config, n int) { c.Retry = n }, 0, 20},
		"Base":     {func(c *api.Config, n int) { c.Base = n }, 1, 7},
		"Cap":      {func(c *api.Config, n int) { c.Cap = n }, 6, 1000},
		"Idle":     {func(c *api.Config, n int) { c.Idle = n }, 1, 1000},
		"both":     {func(c *api.Config, n int) { c.Base, c.Cap = n, n }, 1, 1000},
	} {
		for _, n := range []int{math.MinInt, -1, c.least - 1, c.least, c.most, c.most + 1, math.MaxInt} {
			x := good
			c.set(&x, n)
			want := api.ErrArg
			if c.least <= n && n <= c.most {
				want = api.OK
			}
			if e := Check(x); e != want {
				t.Errorf("%s of %d: %d", what, n, e)
			}
			if y, e := New(x, 1); e != want || (y != nil) != (want == api.OK) {
				t.Errorf("New, %s of %d: %v, %d", what, n, y, e)
			}
		}
	}
	if e := Check(api.Config{}); e != api.ErrArg {
		t.Errorf("nothing: %d", e)
	}
}

func TestNew(t *testing.T) {
	for _, conn := range []int{1, 2, 1 << 31} {
		x, e := New(config(3, 1, 1), conn)
		if e != api.OK || x.Conn() != conn || x.Owed() != 0 || x.Room() != 3 || x.Seq() != 0 || x.Wait(0) != 1 {
			t.Errorf("of %d: %v, %d", conn, x, e)
		}
	}
	for _, conn := range []int{math.MinInt, -1, 0, 1<<31 + 1, math.MaxInt} {
		if x, e := New(config(3, 1, 1), conn); x != nil || e != api.ErrArg {
			t.Errorf("of %d: %v, %d", conn, x, e)
		}
	}
	x, _ := New(api.Config{Sessions: 1, Window: 3, Retry: 2, Base: 2, Cap: 5, Idle: 1}, 1)
	if x.Wait(0) != 2 || x.Wait(1) != 4 || x.Wait(2) != 5 {
		t.Errorf("waits of %d, %d, %d", x.Wait(0), x.Wait(1), x.Wait(2))
	}
}

// P27.2

func TestPush(t *testing.T) {
	x := mustNew(t, 2, 1, 4)
	wantPush(t, x, 0, []byte{7}, data(0, 0, 7))
	wantPush(t, x, 0, nil, data(1, 0))
	wantPush(t, x, 0, []byte{8, 9})
	wantPush(t, x, 0, []byte{6})
	if x.Owed() != 2 || x.Room() != 0 {
		t.Errorf("Owed %d, Room %d", x.Owed(), x.Room())
	}
	// In order, as soon as there is room.
	wantRecv(t, x, 1, ack(1), nil, data(2, 0, 8, 9))
	wantRecv(t, x, 1, ack(3), nil, data(3, 0, 6))
	wantPush(t, x, 1, []byte{5}, data(4, 0, 5))
	wantRecv(t, x, 1, ack(5), nil)
}

func TestMostThatWait(t *testing.T) {
	x := mustNew(t, 1, 20, 9)
	wantPush(t, x, 0, []byte{0}, data(0, 0, 0))
	for i := range 64 {
		wantPush(t, x, 0, []byte{byte(i + 1)})
	}
	wantNoPush(t, x, 0, api.ErrFull)
	for i := range 64 {
		wantRecv(t, x, 1, ack(i+1), nil, data(i+1, 0, byte(i+1)))
		if x.Owed() != 63-i {
			t.Fatalf("Owed %d behind %d", x.Owed(), i+1)
		}
	}
	wantPush(t, x, 1, []byte{1})
	wantPush(t, x, 1, []byte{2})
}

func TestPaysAsMuchAsThereIsRoom(t *testing.T) {
	x := mustNew(t, 3, 1, 9)
	for i := range 8 {
		var want []api.Gram
		if i < 3 {
			want = []api.Gram{data(i, 0, byte(i))}
		}
		wantPush(t, x, 0, []byte{byte(i)}, want...)
	}
	wantRecv(t, x, 1, ack(3), nil, data(3, 0, 3), data(4, 0, 4), data(5, 0, 5))
	// What is said to be acked past the end is not.
	wantRecv(t, x, 1, ack(7), nil)
	wantRecv(t, x, 1, ack(6), nil, data(6, 0, 6), data(7, 0, 7))
}

// P27.3

func TestRecv(t *testing.T) {
	x := mustNew(t, 2, 1, 4)
	wantRecv(t, x, 0, data(1, 0, 4), nil, ack(0))
	wantRecv(t, x, 0, data(2, 0, 5), nil, ack(0))
	wantRecv(t, x, 0, data(0, 0, 3), bodies(3, 4), ack(2))
	wantRecv(t, x, 0, data(0, 0, 3), nil, ack(2))
	wantRecv(t, x, 0, data(-1, 0, 3), nil, ack(2))
	wantRecv(t, x, 0, data(2, 0), [][]byte{nil}, ack(3))
	// What is sent from now on tells what came.
	wantPush(t, x, 0, []byte{9}, data(0, 3, 9))
}

func TestDataAcksToo(t *testing.T) {
	x := mustNew(t, 1, 1, 4)
	wantPush(t, x, 0, []byte{1}, data(0, 0, 1))
	wantPush(t, x, 0, []byte{2})
	// The Ack ahead of what is paid, and both with what came by now; a body that came ahead acks all the same.
	wantRecv(t, x, 1, data(0, 1, 7), bodies(7), ack(1), data(1, 1, 2))
	wantPush(t, x, 1, []byte{3})
	wantRecv(t, x, 2, data(0, 2, 7), nil, ack(1), data(2, 1, 3))
	wantRecv(t, x, 2, data(9, 3, 7), nil, ack(1))
	if x.Room() != 1 || x.Seq() != 3 {
		t.Errorf("Room %d, Seq %d", x.Room(), x.Seq())
	}
}

func TestOthers(t *testing.T) {
	x := mustNew(t, 1, 9, 4)
	wantPush(t, x, 0, []byte{1}, data(0, 0, 1))
	for _, g := range []api.Gram{
		{Conn: 6, Kind: api.Ack, Ack: 1}, {Conn: 6, Kind: api.Data, Ack: 1}, {Conn: 0, Kind: api.Data, Ack: 1}, {Conn: -5, Kind: api.Data, Ack: 1},
		{Conn: 5, Kind: api.Reset, Ack: 1, Code: api.Busy}, {Conn: 5, Kind: 0, Ack: 1}, {Conn: 5, Kind: 4, Ack: 1}, {Conn: 5, Kind: -1, Ack: 1},
	} {
		wantRecv(t, x, 0, g, nil)
	}
	for _, n := range []int{math.MinInt, -1, 0, 2, math.MaxInt} {
		wantRecv(t, x, 0, ack(n), nil)
	}
	if x.Room() != 0 {
		t.Errorf("Room %d", x.Room())
	}
	// Of an Ack neither Seq nor Body matter.
	wantRecv(t, x, 0, api.Gram{Conn: 5, Kind: api.Ack, Ack: 1, Seq: 0, Code: 9, Body: []byte{7}}, nil)
	if x.Room() != 1 {
		t.Errorf("Room %d", x.Room())
	}
	wantRecv(t, x, 0, data(0, 1, 3), bodies(3), ack(1))
}

func TestPass(t *testing.T) {
	x := mustNew(t, 2, 2, 4)
	wantPush(t, x, 0, []byte{7}, data(0, 0, 7))
	wantPush(t, x, 1, []byte{8}, data(1, 0, 8))
	wantPush(t, x, 1, []byte{9})
	wantPass(t, x, 3)
	wantPass(t, x, 4, data(0, 0, 7))
	// With the Ack of now.
	wantRecv(t, x, 4, data(0, 0, 1), bodies(1), ack(1))
	wantPass(t, x, 5, data(1, 1, 8))
	wantPass(t, x, 9, data(0, 1, 7), data(1, 1, 8))
	wantRecv(t, x, 10, ack(1), nil, data(2, 1, 9))
	wantPass(t, x, 12)
	wantGone(t, x, 13)
	if x.Owed() != 0 || x.Seq() != 3 || x.Room() != 0 {
		t.Errorf("Owed %d, Seq %d, Room %d", x.Owed(), x.Seq(), x.Room())
	}
}

func TestPassPays(t *testing.T) {
	x := mustNew(t, 1, 9, 4)
	wantPush(t, x, 0, []byte{7}, data(0, 0, 7))
	wantPush(t, x, 0, []byte{8})
	x.Acked(1)
	wantPass(t, x, 1, data(1, 0, 8))
	wantPass(t, x, 5, data(1, 0, 8))
}

func TestOverForGood(t *testing.T) {
	x := mustNew(t, 1, 0, 4)
	wantPush(t, x, 0, []byte{7}, data(0, 0, 7))
	wantPush(t, x, 0, []byte{8})
	wantGone(t, x, 4)
	wantRecv(t, x, 4, ack(1), nil)
	wantGone(t, x, 0)
	wantGone(t, x, 99)
	if x.Owed() != 1 || x.Conn() != 5 {
		t.Errorf("Owed %d, Conn %d", x.Owed(), x.Conn())
	}
}

func TestNilAndZeroChannel(t *testing.T) {
	for _, x := range []*Channel{nil, {}} {
		wantGone(t, x, 0)
		wantRecv(t, x, 0, api.Gram{Kind: api.Data}, nil)
		wantRecv(t, x, 0, api.Gram{Kind: api.Ack}, nil)
		if x.Conn() != 0 || x.Owed() != 0 {
			t.Errorf("Conn %d, Owed %d", x.Conn(), x.Owed())
		}
	}
}

// P27.4

// wire is two Channels, and what is under way from each to the other one.
type wire struct {
	ends      [2]*Channel
	under     [2][]api.Gram
	sent, got [2][]byte
}

// push sends one more byte from one end.
func (w *wire) push(t *testing.T, end, now int) {
	b := byte(len(w.sent[end]) * 7)
	out, e := w.ends[end].Push(now, b)
	if e != api.OK {
		t.Fatalf("Push: %d", e)
	}
	w.sent[end] = append(w.sent[end], b)
	w.under[end] = append(w.under[end], out...)
}

// pass lets time go by at one end.
func (w *wire) pass(end, now int) {
	out, _ := w.ends[end].Pass(now)
	w.under[end] = append(w.under[end], out...)
}

// deliver lets one that is under way from an end come; it stays, too, if it is to come once more.
func (w *wire) deliver(end, now, nth int, isDoubled bool) {
	g := w.under[end][nth]
	if !isDoubled {
		w.under[end] = slices.Delete(w.under[end], nth, nth+1)
	}
	got, out := w.ends[1-end].Recv(now, g)
	for _, b := range got {
		w.got[end] = append(w.got[end], b...)
	}
	w.under[1-end] = append(w.under[1-end], out...)
}

func TestInOrderEachOnce(t *testing.T) {
	r := rand.New(rand.NewSource(27))
	whole := 0
	for range 100 {
		w := wire{ends: [2]*Channel{mustNew(t, 1+r.Intn(5), 20, 3), mustNew(t, 1+r.Intn(5), 20, 3)}}
		for now := range 300 {
			for end := range 2 {
				if now < 60 && r.Intn(2) == 0 {
					w.push(t, end, now)
				}
				w.pass(end, now)
				for range r.Intn(4) {
					if len(w.under[end]) == 0 {
						break
					}
					nth := r.Intn(len(w.under[end]))
					if r.Intn(4) == 0 {
						w.under[end] = slices.Delete(w.under[end], nth, nth+1)
						continue
					}
					w.deliver(end, now, nth, r.Intn(4) == 0)
				}
				if n := len(w.got[end]); n > len(w.sent[end]) || !slices.Equal(w.got[end], w.sent[end][:n]) {
					t.Fatalf("got %v, of %v", w.got[end], w.sent[end])
				}
			}
		}
		// From now on all comes, at once.
		for now := 300; now < 400; now++ {
			for end := range 2 {
				w.pass(end, now)
			}
			for len(w.under[0])+len(w.under[1]) > 0 {
				for end := range 2 {
					if len(w.under[end]) > 0 {
						w.deliver(end, now, 0, false)
					}
				}
			}
		}
		if w.ends[0].Over() || w.ends[1].Over() {
			continue
		}
		for end := range 2 {
			whole += len(w.got[end])
			if !slices.Equal(w.got[end], w.sent[end]) {
				t.Fatalf("got %v, of %v", w.got[end], w.sent[end])
			}
		}
	}
	if whole < 2000 {
		t.Errorf("of those that were not over %d were got", whole)
	}
}

func TestArgumentsAndAnswers(t *testing.T) {
	x := mustNew(t, 2, 9, 4)
	first, later, came := []byte{1, 2, 99}, []byte{3, 4, 99}, []byte{5, 6, 99}
	one, _ := x.Push(0, first[:2]...)
	wantPush(t, x, 0, []byte{9}, data(1, 0, 9))
	wantPush(t, x, 0, later[:2])
	wantRecv(t, x, 0, data(1, 0, came[:2]...), nil, ack(0))
	if first[2] != 99 || later[2] != 99 || came[2] != 99 {
		t.Errorf("the room of a body was changed: %v, %v, %v", first, later, came)
	}
	for _, b := range [][]byte{first, later, came, one[0].Body} {
		sample.Overwrite(b, 77)
	}
	again, _ := x.Pass(4)
	if !sameGrams(again, []api.Gram{data(0, 0, 1, 2), data(1, 0, 9)}) {
		t.Errorf("Pass: %v", again)
	}
	sample.Overwrite(again[0].Body, 77)
	sample.Overwrite(again, ack(77))
	wantPass(t, x, 8, data(0, 0, 1, 2), data(1, 0, 9))
	wantRecv(t, x, 8, data(0, 1), [][]byte{nil, {5, 6}}, ack(2), data(2, 2, 3, 4))
}
