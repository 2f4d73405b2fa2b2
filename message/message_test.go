package message

import (
	"bytes"
	"fmt"
	"math"
	"math/rand"
	"slices"
	"testing"

	"milepost/api"
	"milepost/octets"
	"milepost/sample"
)

const (
	most2 = 1<<16 - 1 // the greatest number of two bytes
	most5 = 1<<40 - 1
)

// full is a message of a kind with something in each field.
func full(kind int) api.Msg {
	return api.Msg{Kind: kind, Pos: 258, Dest: 3, Edges: []int{4, 5}, Weight: 6, Hint: api.Hint{Class: 7, Edge: 8, Far: 9, Left: 10}}
}

// wantEncoded asks what a message is written as.
func wantEncoded(t *testing.T, m api.Msg, want ...byte) {
	t.Helper()
	if b, e := Encode(m); e != api.OK || !bytes.Equal(b, want) {
		t.Errorf("Encode(%v) = %v, %d; want %v", m, b, e, want)
	}
}

// wantNotEncoded asks that a message is refused.
func wantNotEncoded(t *testing.T, m api.Msg) {
	t.Helper()
	if b, e := Encode(m); e != api.ErrArg || len(b) != 0 {
		t.Errorf("Encode(%v) = %v, %d; want %d", m, b, e, api.ErrArg)
	}
}

// wantDecoded asks what bytes are read as.
func wantDecoded(t *testing.T, b []byte, want api.Msg) {
	t.Helper()
	if m, e := Decode(b); e != api.OK || fmt.Sprint(m) != fmt.Sprint(want) {
		t.Errorf("Decode(%v) = %v, %d; want %v", b, m, e, want)
	}
}

// wantNotDecoded asks that bytes are refused.
func wantNotDecoded(t *testing.T, b []byte) {
	t.Helper()
	if m, e := Decode(b); e != api.ErrBad || fmt.Sprint(m) != fmt.Sprint(api.Msg{}) {
		t.Errorf("Decode(%v) = %v, %d; want %d", b, m, e, api.ErrBad)
	}
}

// each is a message of each kind, with all that its kind says and nothing else, and its bytes.
func each() ([]api.Msg, [][]byte) {
	return []api.Msg{
		{Kind: api.Open, Pos: 258, Dest: 3},
		{Kind: api.Report, Pos: 258},
		{Kind: api.Bye},
		{Kind: api.Opened},
		{Kind: api.Route, Weight: 6, Edges: []int{4, 5}},
		{Kind: api.NoRoute},
		{Kind: api.Next, Hint: api.Hint{Class: 7, Edge: 8, Far: 9, Left: 10}},
		{Kind: api.Arrived},
		{Kind: api.Wrong, Pos: 258},
	}, [][]byte{
		{1, 1, 2, 0, 3},
		{2, 1, 2},
		{3},
		{4},
		{5, 0, 0, 0, 0, 6, 0, 2, 0, 4, 0, 5},
		{6},
		{7, 7, 0, 9, 0, 0, 0, 0, 9, 0, 0, 0, 0, 10},
		{8},
		{9, 1, 2},
	}
}

func ExampleEncode() {
	fmt.Println(Encode(api.Msg{Kind: api.Bye}))
	// Output: [3] 0
}

// P22.1

func TestEachKind(t *testing.T) {
	all, written := each()
	for i, m := range all {
		wantEncoded(t, m, written[i]...)
		wantDecoded(t, written[i], m)
		// What its kind says nothing of is not written, and so read as nothing.
		wantEncoded(t, full(m.Kind), written[i]...)
	}
}

func TestNothingIsAskedOfOtherFields(t *testing.T) {
	wrong := api.Msg{Pos: -1, Dest: 1 << 20, Edges: make([]int, 600), Weight: -1, Hint: api.Hint{Class: -1, Edge: -9, Far: -1, Left: -1}}
	for _, kind := range []int{api.Bye, api.Opened, api.NoRoute, api.Arrived} {
		wrong.Kind = kind
		wantEncoded(t, wrong, byte(kind))
	}
	wrong.Kind, wrong.Pos = api.Report, 1
	wantEncoded(t, wrong, 2, 0, 1)
	wrong.Kind = api.Wrong
	wantEncoded(t, wrong, 9, 0, 1)
	wrong.Kind, wrong.Dest = api.Open, 2
	wantEncoded(t, wrong, 1, 0, 1, 0, 2)
}

func TestNoKind(t *testing.T) {
	for _, kind := range []int{math.MinInt, -1, 0, 10, 255, 256, 256 + api.Bye, math.MaxInt} {
		wantNotEncoded(t, full(kind))
		wantNotEncoded(t, api.Msg{Kind: kind})
	}
	for kind := range 256 {
		if kind < api.Open || kind > api.Wrong {
			wantNotDecoded(t, []byte{byte(kind)})
			wantNotDecoded(t, []byte{byte(kind), 0, 0})
		}
	}
}

func TestEnds(t *testing.T) {
	wantEncoded(t, api.Msg{Kind: api.Open, Pos: most2, Dest: most2}, 1, 255, 255, 255, 255)
	wantEncoded(t, api.Msg{Kind: api.Open}, 1, 0, 0, 0, 0)
	wantEncoded(t, api.Msg{Kind: api.Report, Pos: most2}, 2, 255, 255)
	wantEncoded(t, api.Msg{Kind: api.Wrong, Pos: most2}, 9, 255, 255)
	wantEncoded(t, api.Msg{Kind: api.Route}, 5, 0, 0, 0, 0, 0, 0, 0)
	wantEncoded(t, api.Msg{Kind: api.Route, Weight: most5, Edges: []int{0, most2}}, 5, 255, 255, 255, 255, 255, 0, 2, 0, 0, 255, 255)
	wantEncoded(t, api.Msg{Kind: api.Next, Hint: api.Hint{Edge: -1}}, 7, 0, 0, 0, 0, 0, 0, 0, 0, 0, 0, 0, 0, 0)
	most := api.Hint{Class: 255, Edge: most2 - 1, Far: most5, Left: most5}
	wantEncoded(t, api.Msg{Kind: api.Next, Hint: most}, 7, 255, 255, 255, 255, 255, 255, 255, 255, 255, 255, 255, 255, 255)
}

func TestNumbersThatDoNotFit(t *testing.T) {
	for _, n := range []int{math.MinInt, -1, most2 + 1, math.MaxInt} {
		wantNotEncoded(t, api.Msg{Kind: api.Open, Pos: n})
		wantNotEncoded(t, api.Msg{Kind: api.Open, Dest: n})
		wantNotEncoded(t, api.Msg{Kind: api.Report, Pos: n})
		wantNotEncoded(t, api.Msg{Kind: api.Wrong, Pos: n})
		wantNotEncoded(t, api.Msg{Kind: api.Route, Edges: []int{n}})
		wantNotEncoded(t, api.Msg{Kind: api.Route, Edges: []int{0, n, 0}})
	}
	for _, n := range []int{math.MinInt, -1, most5 + 1, math.MaxInt} {
		wantNotEncoded(t, api.Msg{Kind: api.Route, Weight: n})
		wantNotEncoded(t, api.Msg{Kind: api.Next, Hint: api.Hint{Far: n}})
		wantNotEncoded(t, api.Msg{Kind: api.Next, Hint: api.Hint{Left: n}})
	}
	for _, n := range []int{math.MinInt, -2, most2, math.MaxInt} {
		wantNotEncoded(t, api.Msg{Kind: api.Next, Hint: api.Hint{Edge: n}})
	}
	for _, n := range []int{math.MinInt, -1, 256, math.MaxInt} {
		wantNotEncoded(t, api.Msg{Kind: api.Next, Hint: api.Hint{Class: n}})
	}
}

func TestMostEdges(t *testing.T) {
	m := api.Msg{Kind: api.Route, Edges: make([]int, 512)}
	m.Edges[511] = 258
	b := slices.Concat([]byte{5, 0, 0, 0, 0, 0, 2, 0}, make([]byte, 1022), []byte{1, 2})
	wantEncoded(t, m, b...)
	wantDecoded(t, b, m)
	wantNotEncoded(t, api.Msg{Kind: api.Route, Edges: make([]int, 513)})
	wantNotEncoded(t, api.Msg{Kind: api.Route, Edges: make([]int, 1<<16)})
	wantNotDecoded(t, append([]byte{5, 0, 0, 0, 0, 0, 2, 1}, make([]byte, 1026)...))
	wantNotDecoded(t, append([]byte{5, 0, 0, 0, 0, 0, 255, 255}, make([]byte, 2*65535)...))
}

func TestTooFewAndTooManyBytes(t *testing.T) {
	_, written := each()
	for _, b := range written {
		for n := range len(b) {
			wantNotDecoded(t, b[:n])
		}
		wantNotDecoded(t, append(slices.Clone(b), 0))
		wantNotDecoded(t, append(slices.Clone(b), b...))
	}
	wantNotDecoded(t, nil)
	wantNotDecoded(t, []byte{})
	// A count that is not that of the edges behind it.
	for _, n := range []byte{0, 1, 3, 255} {
		wantNotDecoded(t, []byte{5, 0, 0, 0, 0, 6, 0, n, 0, 4, 0, 5})
	}
	wantNotDecoded(t, []byte{5, 0, 0, 0, 0, 6, 1, 2, 0, 4, 0, 5})
	wantNotDecoded(t, []byte{5, 0, 0, 0, 0, 6, 0, 3, 0, 4, 0, 5, 0})
}

func TestWrongCountCostsNoMoreThanItsBytes(t *testing.T) {
	if edges := readEdges(octets.Read([]byte{255, 255, 0, 1})); len(edges) != 1 {
		t.Errorf("of one edge %d were read", len(edges))
	}
}

// P22.2

func TestSame(t *testing.T) {
	for i, turn := range []func(m *api.Msg){
		func(m *api.Msg) { m.Kind++ },
		func(m *api.Msg) { m.Pos++ },
		func(m *api.Msg) { m.Dest++ },
		func(m *api.Msg) { m.Weight++ },
		func(m *api.Msg) { m.Edges[0]++ },
		func(m *api.Msg) { m.Edges[1]++ },
		func(m *api.Msg) { m.Edges = m.Edges[:1] },
		func(m *api.Msg) { m.Edges = append(m.Edges, 0) },
		func(m *api.Msg) { m.Edges = nil },
		func(m *api.Msg) { slices.Reverse(m.Edges) },
		func(m *api.Msg) { m.Hint.Class++ },
		func(m *api.Msg) { m.Hint.Edge++ },
		func(m *api.Msg) { m.Hint.Far++ },
		func(m *api.Msg) { m.Hint.Left++ },
	} {
		// All fields count, whatever the kind says of them.
		for _, kind := range []int{-1, 0, api.Open, api.Bye, api.Route, api.Next} {
			a, b := full(kind), full(kind)
			if !Same(a, b) || !Same(b, a) {
				t.Errorf("Same(%v, %v) is false", a, b)
			}
			if turn(&b); Same(a, b) || Same(b, a) {
				t.Errorf("Same(%v, %v), turn %d", a, b, i)
			}
		}
	}
	if !Same(api.Msg{}, api.Msg{Edges: []int{}}) || !Same(api.Msg{Edges: []int{}}, api.Msg{}) {
		t.Error("none and an empty list are not the same")
	}
}

// P22.3

func TestReadAsWritten(t *testing.T) {
	r := rand.New(rand.NewSource(22))
	for range 2000 {
		all, _ := each()
		m := all[r.Intn(len(all))]
		switch m.Kind {
		case api.Route:
			m.Weight, m.Edges = r.Intn(most5+1), make([]int, r.Intn(513))
			for i := range m.Edges {
				m.Edges[i] = r.Intn(most2 + 1)
			}
		case api.Next:
			m.Hint = api.Hint{Class: r.Intn(256), Edge: r.Intn(most2+1) - 1, Far: r.Intn(most5 + 1), Left: r.Intn(most5 + 1)}
		}
		b, e := Encode(m)
		if e != api.OK {
			t.Fatalf("Encode(%v): %d", m, e)
		}
		if got, e := Decode(b); e != api.OK || !Same(got, m) {
			t.Fatalf("%v is read as %v, %d", m, got, e)
		}
	}
}

func TestReadIsWrittenSo(t *testing.T) {
	r := rand.New(rand.NewSource(220))
	for range 20000 {
		b := make([]byte, r.Intn(16))
		for i := range b {
			b[i] = byte(r.Intn(11))
		}
		if m, e := Decode(b); e == api.OK {
			wantEncoded(t, m, b...)
		} else {
			wantNotDecoded(t, b)
		}
	}
}

func TestArgumentsAndAnswers(t *testing.T) {
	room := []int{4, 5, 6}
	m := api.Msg{Kind: api.Route, Edges: room[:2]}
	b, _ := Encode(m)
	again, _ := Encode(m)
	sample.Overwrite(again, 99)
	read, _ := Decode(b)
	if !slices.Equal(room, []int{4, 5, 6}) {
		t.Errorf("the edges, or their room, were changed: %v", room)
	}
	other, _ := Decode(b)
	sample.Overwrite(other.Edges, 99)
	sample.Overwrite(room, 98)
	want := []byte{5, 0, 0, 0, 0, 0, 0, 2, 0, 4, 0, 5}
	if !bytes.Equal(b, want) {
		t.Errorf("bytes were changed: %v", b)
	}
	sample.Overwrite(b, 97)
	if !slices.Equal(read.Edges, []int{4, 5}) {
		t.Errorf("an answer was changed: %v", read)
	}
}
