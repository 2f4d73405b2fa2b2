package gram

import (
	"bytes"
	"fmt"
	"math"
	"math/rand"
	"reflect"
	"slices"
	"testing"

	"milepost/api"
	"milepost/frame"
	"milepost/sample"
)

// most4 is the greatest number of four bytes.
const most4 = 1<<32 - 1

// full is a datagram of a kind with something in each field.
func full(kind int) api.Gram {
	return api.Gram{Kind: kind, Conn: 258, Seq: 3, Ack: 4, Code: 5, Body: []byte{6, 7}}
}

// each is a datagram of each kind, with all that its kind says and nothing else, and what is in its frame.
func each() ([]api.Gram, [][]byte) {
	return []api.Gram{
		{Kind: api.Data, Conn: 258, Seq: 3, Ack: 4, Body: []byte{6, 7}},
		{Kind: api.Ack, Conn: 258, Ack: 4},
		{Kind: api.Reset, Conn: 258, Code: 5},
	}, [][]byte{
		{0, 0, 1, 2, 0, 0, 0, 3, 0, 0, 0, 4, 6, 7},
		{0, 0, 1, 2, 0, 0, 0, 4},
		{0, 0, 1, 2, 5},
	}
}

// framed is a frame of a kind.
func framed(kind int, body ...byte) []byte {
	b, _ := frame.Wrap(kind, body)
	return b
}

// same tells whether two datagrams are the same, nil and empty bodies being alike.
func same(a, b api.Gram) bool { return fmt.Sprint(a) == fmt.Sprint(b) }

// wantEncoded asks that a datagram is written as a frame of its kind with this in it.
func wantEncoded(t *testing.T, g api.Gram, want ...byte) {
	t.Helper()
	if b, e := Encode(g); e != api.OK || !bytes.Equal(b, framed(g.Kind, want...)) {
		t.Errorf("Encode(%v) = %v, %d; want %v", g, b, e, framed(g.Kind, want...))
	}
}

// wantNotEncoded asks that a datagram is refused.
func wantNotEncoded(t *testing.T, g api.Gram) {
	t.Helper()
	if b, e := Encode(g); e != api.ErrArg || len(b) != 0 {
		t.Errorf("Encode(%v) = %v, %d; want %d", g, b, e, api.ErrArg)
	}
}

// wantDecoded asks what bytes are read as.
func wantDecoded(t *testing.T, b []byte, want api.Gram) {
	t.Helper()
	if g, e := Decode(b); e != api.OK || !same(g, want) {
		t.Errorf("Decode(%v) = %v, %d; want %v", b, g, e, want)
	}
}

// wantNotDecoded asks that bytes are refused.
func wantNotDecoded(t *testing.T, b []byte, want api.Errno) {
	t.Helper()
	if g, e := Decode(b); e != want || !reflect.DeepEqual(g, api.Gram{}) {
		t.Errorf("Decode(%v) = %v, %d; want %d", b, g, e, want)
	}
}

func ExampleEncode() {
	b, e := Encode(api.Gram{Kind: api.Reset, Conn: 1, Code: api.Busy})
	fmt.Println(len(b), e)
	// Output: 14 0
}

// P23.1

func TestEachKind(t *testing.T) {
	all, written := each()
	for i, g := range all {
		wantEncoded(t, g, written[i]...)
		wantDecoded(t, framed(g.Kind, written[i]...), g)
		// What its kind says nothing of is not written, and so read as nothing.
		wantEncoded(t, full(g.Kind), written[i]...)
	}
	// To the byte, sum and all.
	want := sample.Summed(77, 3, 3, 0, 5, 0, 0, 1, 2, 5)
	if b, _ := Encode(all[2]); !bytes.Equal(b, want) {
		t.Errorf("a Reset: %v, want %v", b, want)
	}
}

func TestNothingIsAskedOfOtherFields(t *testing.T) {
	for _, n := range []int{-1, 1 << 32, math.MinInt, math.MaxInt} {
		wantEncoded(t, api.Gram{Kind: api.Data, Code: n}, make([]byte, 12)...)
		wantEncoded(t, api.Gram{Kind: api.Ack, Seq: n, Code: n, Body: make([]byte, 3000)}, make([]byte, 8)...)
		wantEncoded(t, api.Gram{Kind: api.Reset, Seq: n, Ack: n, Body: make([]byte, 3000)}, make([]byte, 5)...)
	}
}

func TestNoKind(t *testing.T) {
	for _, kind := range []int{math.MinInt, -1, 0, 4, 255, 256, 256 + api.Ack, math.MaxInt} {
		wantNotEncoded(t, full(kind))
		wantNotEncoded(t, api.Gram{Kind: kind})
	}
	for kind := range 256 {
		if kind < api.Data || kind > api.Reset {
			for _, n := range []int{0, 4, 5, 8, 12, 13} {
				wantNotDecoded(t, framed(kind, make([]byte, n)...), api.ErrBad)
			}
		}
	}
}

func TestEnds(t *testing.T) {
	all := bytes.Repeat([]byte{255}, 12)
	wantEncoded(t, api.Gram{Kind: api.Data, Conn: most4, Seq: most4, Ack: most4}, all...)
	wantEncoded(t, api.Gram{Kind: api.Ack, Conn: most4, Ack: most4}, all[:8]...)
	wantEncoded(t, api.Gram{Kind: api.Reset, Conn: most4, Code: 255}, all[:5]...)
	wantDecoded(t, framed(api.Data, all...), api.Gram{Kind: api.Data, Conn: most4, Seq: most4, Ack: most4})
	wantDecoded(t, framed(api.Data, make([]byte, 12)...), api.Gram{Kind: api.Data})
	wantDecoded(t, framed(api.Reset, make([]byte, 5)...), api.Gram{Kind: api.Reset})
}

func TestNumbersThatDoNotFit(t *testing.T) {
	for _, n := range []int{math.MinInt, -1, most4 + 1, math.MaxInt} {
		for _, kind := range []int{api.Data, api.Ack, api.Reset} {
			wantNotEncoded(t, api.Gram{Kind: kind, Conn: n})
		}
		wantNotEncoded(t, api.Gram{Kind: api.Data, Seq: n})
		wantNotEncoded(t, api.Gram{Kind: api.Data, Ack: n})
		wantNotEncoded(t, api.Gram{Kind: api.Ack, Ack: n})
		wantNotEncoded(t, api.Gram{Kind: api.Reset, Code: n})
	}
	wantNotEncoded(t, api.Gram{Kind: api.Reset, Code: 256})
}

func TestMostBody(t *testing.T) {
	body := make([]byte, 1989)
	body[0], body[1987] = 8, 9
	most := api.Gram{Kind: api.Data, Conn: 1, Seq: 2, Ack: 3, Body: body[:1988]}
	in := append([]byte{0, 0, 0, 1, 0, 0, 0, 2, 0, 0, 0, 3}, most.Body...)
	wantEncoded(t, most, in...)
	wantDecoded(t, framed(api.Data, in...), most)
	wantNotEncoded(t, api.Gram{Kind: api.Data, Body: body})
	// A frame that says it has more is none, be its sum right or not.
	long := make([]byte, 2001)
	wantNotDecoded(t, sample.Summed(append([]byte{77, 3, api.Data, 7, 209}, long...)...), api.ErrBad)
}

func TestWhatFrameTells(t *testing.T) {
	_, written := each()
	for kind, body := range written {
		b := framed(kind+1, body...)
		for n := range len(b) {
			wantNotDecoded(t, b[:n], api.ErrBad)
		}
		wantNotDecoded(t, append(slices.Clone(b), 0), api.ErrBad)
		for i := range 8 * len(b) {
			turned := slices.Clone(b)
			turned[i/8] ^= 1 << (i % 8)
			wantNotDecoded(t, turned, api.ErrBad)
		}
		old := slices.Clone(b[:len(b)-4])
		old[1] = 2
		wantNotDecoded(t, sample.Summed(old...), api.ErrVer)
	}
	// Another version is told ahead of what is wrong within.
	wantNotDecoded(t, sample.Summed(77, 4, 99, 0, 0), api.ErrVer)
}

func TestTooFewAndTooManyBytes(t *testing.T) {
	for n := range 12 {
		wantNotDecoded(t, framed(api.Data, make([]byte, n)...), api.ErrBad)
	}
	for n := range 20 {
		if n != 8 {
			wantNotDecoded(t, framed(api.Ack, make([]byte, n)...), api.ErrBad)
		}
		if n != 5 {
			wantNotDecoded(t, framed(api.Reset, make([]byte, n)...), api.ErrBad)
		}
	}
}

// P23.2

func TestReadAsWritten(t *testing.T) {
	r := rand.New(rand.NewSource(23))
	for range 2000 {
		g := api.Gram{Kind: 1 + r.Intn(3), Conn: r.Intn(most4 + 1)}
		switch g.Kind {
		case api.Data:
			g.Seq, g.Ack, g.Body = r.Intn(most4+1), r.Intn(most4+1), make([]byte, r.Intn(60))
			r.Read(g.Body)
		case api.Ack:
			g.Ack = r.Intn(most4 + 1)
		case api.Reset:
			g.Code = r.Intn(256)
		}
		b, e := Encode(g)
		if e != api.OK {
			t.Fatalf("Encode(%v): %d", g, e)
		}
		wantDecoded(t, b, g)
	}
}

func TestReadIsWrittenSo(t *testing.T) {
	r := rand.New(rand.NewSource(230))
	for range 2000 {
		body := make([]byte, r.Intn(16))
		r.Read(body)
		b := framed(r.Intn(5), body...)
		if g, e := Decode(b); e == api.OK {
			wantEncoded(t, g, body...)
		} else {
			wantNotDecoded(t, b, api.ErrBad)
		}
	}
}

func TestArgumentsAndAnswers(t *testing.T) {
	room := []byte{6, 7, 8}
	g := api.Gram{Kind: api.Data, Body: room[:2]}
	b, _ := Encode(g)
	again, _ := Encode(g)
	sample.Overwrite(again, 99)
	if !bytes.Equal(room, []byte{6, 7, 8}) {
		t.Errorf("the body, or its room, was changed: %v", room)
	}
	read, _ := Decode(b)
	other, _ := Decode(b)
	sample.Overwrite(other.Body, 99)
	sample.Overwrite(room, 98)
	if !bytes.Equal(b, framed(api.Data, 0, 0, 0, 0, 0, 0, 0, 0, 0, 0, 0, 0, 6, 7)) {
		t.Errorf("bytes were changed: %v", b)
	}
	sample.Overwrite(b, 97)
	if !bytes.Equal(read.Body, []byte{6, 7}) {
		t.Errorf("an answer was changed: %v", read)
	}
}
