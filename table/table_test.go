package table

import (
	"fmt"
	"math"
	"math/rand"
	"slices"
	"testing"

	"milepost/api"
	"milepost/channel"
	"milepost/engine"
	"milepost/sample"
	"milepost/session"
)

// wrongPeers are no peers.
var wrongPeers = []int{math.MinInt, -1, 16, 17, math.MaxInt}

// wrongConns are no connections.
var wrongConns = []int{math.MinInt, -1, 0, 1<<31 + 1, math.MaxInt}

// mustNew is a Table.
func mustNew(t *testing.T, most int) *Table {
	t.Helper()
	x, e := New(most)
	if x == nil || e != api.OK {
		t.Fatalf("New(%d): %v, %d", most, x, e)
	}
	return x
}

// wantAdd asks what May and Add tell, and for the entry, if it is there.
func wantAdd(t *testing.T, x *Table, peer, conn int, want api.Errno) *Entry {
	t.Helper()
	ahead := x.All()
	e := &Entry{Peer: peer, Conn: conn}
	if got := x.May(peer, conn); got != want {
		t.Errorf("May(%d, %d) = %d, want %d", peer, conn, got, want)
	}
	if got := x.Add(e); got != want {
		t.Errorf("Add(%d, %d) = %d, want %d", peer, conn, got, want)
	}
	if want != api.OK && !slices.Equal(x.All(), ahead) {
		t.Errorf("Add(%d, %d) changed who is there", peer, conn)
	}
	if is := want == api.OK; is && x.Get(peer, conn) != e {
		t.Errorf("Get(%d, %d) = %v", peer, conn, x.Get(peer, conn))
	}
	return e
}

// wantAll asks who is there: peers and connections.
func wantAll(t *testing.T, x *Table, want ...[2]int) {
	t.Helper()
	if got := pairs(x.All()); !slices.Equal(got, want) || x.Len() != len(want) {
		t.Errorf("All() is %v, Len() %d; want %v", got, x.Len(), want)
	}
}

// wantDrop asks who was there.
func wantDrop(t *testing.T, x *Table, peers []int, want ...[2]int) {
	t.Helper()
	if got := pairs(x.Drop(peers...)); !slices.Equal(got, want) {
		t.Errorf("Drop(%v) is %v; want %v", peers, got, want)
	}
}

// pairs is the peers and connections of entries.
func pairs(all []*Entry) [][2]int {
	var out [][2]int
	for _, e := range all {
		out = append(out, [2]int{e.Peer, e.Conn})
	}
	return out
}

func ExampleTable_Add() {
	x, _ := New(1)
	fmt.Println(x.Add(&Entry{Peer: 3, Conn: 1}), x.Add(&Entry{Peer: 3, Conn: 2}), x.Add(&Entry{Peer: 4, Conn: 1}))
	fmt.Println(x.Len(), x.Get(3, 1) == nil, x.Get(3, 2) == nil)
	// Output:
	// 0 0 5
	// 1 true false
}

// P29.1

func TestNew(t *testing.T) {
	for _, n := range []int{math.MinInt, -1, 0, 17, math.MaxInt} {
		if x, e := New(n); x != nil || e != api.ErrArg {
			t.Errorf("New(%d): %v, %d", n, x, e)
		}
	}
	for _, n := range []int{1, 2, 16} {
		x := mustNew(t, n)
		wantAll(t, x)
		for peer := range n {
			wantAdd(t, x, peer, 1, api.OK)
		}
		if n < 16 {
			wantAdd(t, x, n, 1, api.ErrFull)
		}
		if x.Len() != n {
			t.Errorf("Len() = %d, want %d", x.Len(), n)
		}
	}
}

func TestWhatMayNotBe(t *testing.T) {
	x := mustNew(t, 16)
	for _, peer := range wrongPeers {
		wantAdd(t, x, peer, 1, api.ErrArg)
	}
	for _, conn := range wrongConns {
		wantAdd(t, x, 1, conn, api.ErrArg)
		for _, peer := range wrongPeers {
			wantAdd(t, x, peer, conn, api.ErrArg)
		}
	}
	if e := x.Add(nil); e != api.ErrArg {
		t.Errorf("Add(nil) = %d", e)
	}
	wantAll(t, x)
	wantAdd(t, x, 0, 1, api.OK)
	wantAdd(t, x, 15, 1<<31, api.OK)
	wantAll(t, x, [2]int{0, 1}, [2]int{15, 1 << 31})
}

func TestGoneForGood(t *testing.T) {
	x := mustNew(t, 2)
	wantAdd(t, x, 3, 5, api.OK)
	for _, conn := range []int{5, 4, 1} {
		wantAdd(t, x, 3, conn, api.ErrGone)
	}
	wantAdd(t, x, 3, 9, api.OK)
	wantAdd(t, x, 3, 8, api.ErrGone)
	// Of that peer alone; and though it is not there any more.
	wantAdd(t, x, 4, 5, api.OK)
	wantDrop(t, x, []int{3}, [2]int{3, 9})
	wantAdd(t, x, 3, 9, api.ErrGone)
	wantAdd(t, x, 3, 10, api.OK)
	// What was refused did not come.
	wantAdd(t, x, 5, 7, api.ErrFull)
	wantDrop(t, x, []int{4}, [2]int{4, 5})
	wantAdd(t, x, 5, 7, api.OK)
	// Nothing is above the greatest.
	wantAdd(t, x, 5, 1<<31, api.OK)
	wantAdd(t, x, 5, 1<<31, api.ErrGone)
}

func TestFull(t *testing.T) {
	x := mustNew(t, 2)
	wantAdd(t, x, 3, 1, api.OK)
	wantAdd(t, x, 1, 1, api.OK)
	wantAdd(t, x, 2, 1, api.ErrFull)
	// In an elder one's place there is room, and what is wrong otherwise is told first.
	wantAdd(t, x, 3, 2, api.OK)
	wantAdd(t, x, 3, 2, api.ErrGone)
	wantAdd(t, x, 2, 0, api.ErrArg)
	wantDrop(t, x, []int{1}, [2]int{1, 1})
	wantAdd(t, x, 2, 1, api.OK)
	// One that was there, and is not: it is gone rather than that there is no room.
	wantAdd(t, x, 1, 1, api.ErrGone)
	wantAdd(t, x, 1, 2, api.ErrFull)
	wantAll(t, x, [2]int{2, 1}, [2]int{3, 2})
}

func TestInTheElderOnesPlace(t *testing.T) {
	x := mustNew(t, 16)
	first := wantAdd(t, x, 7, 1, api.OK)
	second := wantAdd(t, x, 7, 2, api.OK)
	if x.Get(7, 1) != nil || x.Get(7, 2) != second || first == second || x.Len() != 1 {
		t.Errorf("there is %v", x.All())
	}
}

// P29.2

func TestGet(t *testing.T) {
	x := mustNew(t, 16)
	e := wantAdd(t, x, 3, 5, api.OK)
	wantAdd(t, x, 0, 1, api.OK)
	for _, conn := range append(wrongConns, 1, 4, 6) {
		if got := x.Get(3, conn); got != nil {
			t.Errorf("Get(3, %d) = %v", conn, got)
		}
	}
	for _, peer := range append(wrongPeers, 0, 2, 4, 15) {
		if got := x.Get(peer, 5); got != nil {
			t.Errorf("Get(%d, 5) = %v", peer, got)
		}
	}
	// It is the same one, each time.
	x.Get(3, 5).Last = 77
	if e.Last != 77 || x.All()[1] != e || x.Get(2, 0) != nil {
		t.Errorf("there is %v", x.All())
	}
}

func TestDrop(t *testing.T) {
	x := mustNew(t, 16)
	for _, peer := range []int{15, 3, 0, 7} {
		wantAdd(t, x, peer, peer+1, api.OK)
	}
	wantDrop(t, x, nil)
	wantDrop(t, x, wrongPeers)
	wantDrop(t, x, []int{1, 2, 14})
	wantDrop(t, x, []int{7, -1, 3, 99, 7, 2}, [2]int{3, 4}, [2]int{7, 8})
	wantAll(t, x, [2]int{0, 1}, [2]int{15, 16})
	wantDrop(t, x, []int{7, 3})
	wantDrop(t, x, []int{15, 0}, [2]int{0, 1}, [2]int{15, 16})
	wantAll(t, x)
	if x.Get(0, 1) != nil {
		t.Error("who is gone is there")
	}
}

func TestAllByPeer(t *testing.T) {
	x := mustNew(t, 16)
	var want [][2]int
	for peer := range 16 {
		wantAdd(t, x, 15-peer, 1, api.OK)
		want = append(want, [2]int{peer, 1})
	}
	wantAll(t, x, want...)
}

func TestNilAndZeroTable(t *testing.T) {
	var none *Table
	for _, peer := range append(wrongPeers, 0, 1) {
		wantAdd(t, none, peer, 1, api.ErrArg)
		wantDrop(t, none, []int{peer})
		if none.Get(peer, 1) != nil {
			t.Errorf("Get(%d, 1) of nil", peer)
		}
	}
	if e := none.Add(nil); e != api.ErrArg {
		t.Errorf("Add(nil) of nil = %d", e)
	}
	wantAll(t, none)
	x := &Table{}
	wantAdd(t, x, 0, 1, api.ErrFull)
	wantAdd(t, x, 0, 0, api.ErrArg)
	wantAll(t, x)
	wantDrop(t, x, []int{0})
}

func TestBothOwnCalls(t *testing.T) {
	g, _ := engine.New(api.Graph{Nodes: make([]api.Node, 2), Edges: []api.Edge{{From: 0, To: 1, W: 5}, {From: 1, To: 0, W: 7}}})
	way, _, _ := session.New(g, 0, 0, nil)
	line, _ := channel.New(api.Config{Sessions: 1, Window: 1, Retry: 1, Base: 2, Cap: 3, Idle: 9}, 7)
	x := mustNew(t, 1)
	if e := x.Add(&Entry{Peer: 2, Conn: 7, Channel: line, Session: way, Last: 5}); e != api.OK {
		t.Fatalf("Add: %d", e)
	}
	e := x.Get(2, 7)
	out, _ := e.Push(0, 9)
	told := e.Report(1, nil)
	if len(out) != 1 || out[0].Conn != 7 || e.Owed() != 0 || e.Room() != 0 || e.At() != 1 || !e.Done() || told[0].Kind != api.Arrived || e.Last != 5 || e.Conn != 7 || e.Channel.Conn() != 7 {
		t.Errorf("told %v, %v; at %d", out, told, e.At())
	}
}

// P29.3

func TestNeverMoreThanMayBe(t *testing.T) {
	r := rand.New(rand.NewSource(29))
	for range 100 {
		most := 1 + r.Intn(5)
		x := mustNew(t, most)
		greatest, there := map[int]int{}, map[int]int{}
		for range 300 {
			peer, conn := r.Intn(7), 1+r.Intn(40)
			if r.Intn(4) == 0 {
				was, is := there[peer]
				dropped := x.Drop(peer)
				if is != (len(dropped) == 1) || is && dropped[0].Conn != was {
					t.Fatalf("Drop(%d) = %v, want %d, %t", peer, pairs(dropped), was, is)
				}
				delete(there, peer)
				continue
			}
			want := api.OK
			_, is := there[peer]
			switch {
			case conn <= greatest[peer]:
				want = api.ErrGone
			case !is && len(there) == most:
				want = api.ErrFull
			default:
				there[peer], greatest[peer] = conn, conn
			}
			wantAdd(t, x, peer, conn, want)
			if x.Len() > most || x.Len() != len(there) {
				t.Fatalf("there are %d, want %d, of %d", x.Len(), len(there), most)
			}
		}
		if t.Failed() {
			t.FailNow()
		}
	}
}

func TestArgumentsAndAnswers(t *testing.T) {
	x := mustNew(t, 3)
	wantAdd(t, x, 1, 1, api.OK)
	wantAdd(t, x, 2, 1, api.OK)
	sample.Overwrite(x.All(), nil)
	wantAll(t, x, [2]int{1, 1}, [2]int{2, 1})
	peers := []int{2, 1, 99}
	sample.Overwrite(x.Drop(peers[:1]...), nil)
	if !slices.Equal(peers, []int{2, 1, 99}) {
		t.Errorf("the list, or its room, was changed: %v", peers)
	}
	wantAll(t, x, [2]int{1, 1})
	// Two Tables have nothing in common.
	wantAll(t, mustNew(t, 3))
}
