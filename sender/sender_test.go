package sender

import (
	"bytes"
	"fmt"
	"math"
	"math/rand"
	"slices"
	"testing"

	"milepost/api"
	"milepost/sample"
	"milepost/timer"
)

// mustNew is a Sender with a window, and a Timer of its own.
func mustNew(t *testing.T, window, base, most, tries int) *Sender {
	t.Helper()
	w, _ := timer.New(base, most, tries)
	x, e := New(window, w)
	if x == nil || e != api.OK {
		t.Fatalf("New(%d) of (%d, %d, %d): %v, %d", window, base, most, tries, x, e)
	}
	return x
}

// wantSent asks that a body is sent, and its number.
func wantSent(t *testing.T, x *Sender, now, seq int, body ...byte) {
	t.Helper()
	if got, e := x.Send(now, body...); got != seq || e != api.OK {
		t.Errorf("Send(%d, %v) = %d, %d; want %d", now, body, got, e, seq)
	}
}

// wantRefused asks that nothing is sent, and nothing is changed.
func wantRefused(t *testing.T, x *Sender, now int, why api.Errno) {
	t.Helper()
	seq, room := x.Seq(), x.Room()
	if got, e := x.Send(now, 1, 2); got != 0 || e != why {
		t.Errorf("Send(%d) = %d, %d; want %d", now, got, e, why)
	}
	if x.Seq() != seq || x.Room() != room {
		t.Errorf("Seq %d, Room %d; want %d, %d", x.Seq(), x.Room(), seq, room)
	}
}

// wantUnderWay asks for the first number that is under way, and the bodies from it on.
func wantUnderWay(t *testing.T, x *Sender, first int, bodies ...[]byte) {
	t.Helper()
	for i, want := range bodies {
		if got, ok := x.Body(first + i); !ok || !bytes.Equal(got, want) {
			t.Errorf("Body(%d) = %v, %t; want %v", first+i, got, ok, want)
		}
	}
	next := first + len(bodies)
	for _, seq := range []int{math.MinInt, -1, first - 1, next, next + 1, math.MaxInt} {
		if got, ok := x.Body(seq); ok || len(got) != 0 {
			t.Errorf("Body(%d) = %v, %t", seq, got, ok)
		}
	}
	if x.Seq() != next {
		t.Errorf("Seq() = %d, want %d", x.Seq(), next)
	}
}

// wantAcked asks how many were under way.
func wantAcked(t *testing.T, x *Sender, ack, want int) {
	t.Helper()
	if got := x.Acked(ack); got != want {
		t.Errorf("Acked(%d) = %d, want %d", ack, got, want)
	}
}

// wantAgain asks who is sent once more.
func wantAgain(t *testing.T, x *Sender, now int, want ...int) {
	t.Helper()
	if got, e := x.Again(now); e != api.OK || !slices.Equal(got, want) {
		t.Errorf("Again(%d) = %v, %d; want %v", now, got, e, want)
	}
}

// wantGone asks that it is over.
func wantGone(t *testing.T, x *Sender, now int) {
	t.Helper()
	if got, e := x.Again(now); e != api.ErrGone || len(got) != 0 {
		t.Errorf("Again(%d) = %v, %d", now, got, e)
	}
	wantRefused(t, x, now, api.ErrGone)
	if x.Room() != 0 {
		t.Errorf("Room() = %d", x.Room())
	}
}

func ExampleSender_Send() {
	t, _ := timer.New(2, 5, 3)
	s, _ := New(1, t)
	fmt.Println(s.Send(0, 7))
	fmt.Println(s.Send(1, 8))
	fmt.Println(s.Acked(1))
	fmt.Println(s.Send(2, 8))
	// Output:
	// 0 0
	// 0 5
	// 1
	// 1 0
}

// P25.1

func TestNew(t *testing.T) {
	for _, window := range []int{1, 2, 16} {
		if x := mustNew(t, window, 5, 5, 1); x.Room() != window || x.Seq() != 0 || x.Len() != 0 {
			t.Errorf("of a window of %d: Room %d, Seq %d, Len %d", window, x.Room(), x.Seq(), x.Len())
		}
		if x, e := New(window, nil); x != nil || e != api.ErrArg {
			t.Errorf("New(%d, nil) = %v, %d", window, x, e)
		}
	}
	w, _ := timer.New(1, 1, 1)
	for _, window := range []int{math.MinInt, -1, 0, 17, math.MaxInt} {
		if x, e := New(window, w); x != nil || e != api.ErrArg {
			t.Errorf("New(%d) = %v, %d", window, x, e)
		}
	}
}

func TestSend(t *testing.T) {
	x := mustNew(t, 3, 5, 5, 1)
	wantSent(t, x, 0, 0, 7, 8)
	wantSent(t, x, 0, 1)
	wantSent(t, x, 2, 2, 9)
	wantUnderWay(t, x, 0, []byte{7, 8}, nil, []byte{9})
	wantRefused(t, x, 2, api.ErrFull)
	wantUnderWay(t, x, 0, []byte{7, 8}, nil, []byte{9})
	// Each is waited for from its own time on.
	wantAgain(t, x, 4)
	wantAgain(t, x, 6, 0, 1)
	wantAgain(t, x, 7, 2)
}

func TestAcked(t *testing.T) {
	x := mustNew(t, 3, 5, 5, 1)
	wantAcked(t, x, 0, 0)
	wantAcked(t, x, 1, 0)
	wantSent(t, x, 0, 0, 7)
	wantSent(t, x, 0, 1, 8)
	wantSent(t, x, 0, 2, 9)
	for _, ack := range []int{math.MinInt, -1, 0, 4, 5, math.MaxInt} {
		wantAcked(t, x, ack, 0)
	}
	wantUnderWay(t, x, 0, []byte{7}, []byte{8}, []byte{9})
	wantAcked(t, x, 2, 2)
	wantUnderWay(t, x, 2, []byte{9})
	if x.Room() != 2 || x.Len() != 1 {
		t.Errorf("Room %d, Len %d", x.Room(), x.Len())
	}
	wantAcked(t, x, 2, 0)
	wantAcked(t, x, 1, 0)
	wantSent(t, x, 3, 3, 4)
	wantAgain(t, x, 7, 2)
	wantAcked(t, x, 4, 2)
	wantUnderWay(t, x, 4)
	wantAgain(t, x, 99)
	if x.Room() != 3 || x.Len() != 0 {
		t.Errorf("Room %d, Len %d", x.Room(), x.Len())
	}
}

func TestWindowOfOne(t *testing.T) {
	x := mustNew(t, 1, 5, 5, 1)
	for seq := range 100 {
		wantSent(t, x, seq, seq, byte(seq))
		wantRefused(t, x, seq, api.ErrFull)
		wantUnderWay(t, x, seq, []byte{byte(seq)})
		wantAcked(t, x, seq+1, 1)
	}
}

// P25.2

func TestAgain(t *testing.T) {
	x := mustNew(t, 3, 2, 5, 3)
	wantSent(t, x, 10, 0)
	wantSent(t, x, 11, 1)
	wantAgain(t, x, 11)
	wantAgain(t, x, 12, 0)
	wantAgain(t, x, 12)
	wantAgain(t, x, 16, 0, 1)
	wantAcked(t, x, 1, 1)
	wantAgain(t, x, 19)
	wantAgain(t, x, 20, 1)
	wantAgain(t, x, 24)
	wantAgain(t, x, 25, 1)
	wantGone(t, x, 30)
}

func TestOver(t *testing.T) {
	x := mustNew(t, 4, 5, 5, 1)
	wantSent(t, x, 0, 0, 7)
	wantSent(t, x, 3, 1, 8)
	wantAgain(t, x, 5, 0)
	if x.Over() {
		t.Error("over too early")
	}
	// 0 is over, and so is all: 1, that is due, too, is not told.
	wantGone(t, x, 10)
	if !x.Over() {
		t.Error("not over")
	}
	for _, now := range []int{0, 10, 11, 1 << 60} {
		wantGone(t, x, now)
	}
	// What was not acked stays so, till it is: but it is over for good.
	wantUnderWay(t, x, 0, []byte{7}, []byte{8})
	wantAcked(t, x, 3, 0)
	wantAcked(t, x, 2, 2)
	wantUnderWay(t, x, 2)
	wantGone(t, x, 12)
}

func TestNoTries(t *testing.T) {
	x := mustNew(t, 1, 5, 5, 0)
	wantSent(t, x, 0, 0)
	wantAgain(t, x, 4)
	wantGone(t, x, 5)
}

func TestNilAndZeroSender(t *testing.T) {
	var none *Sender
	wantUnderWay(t, none, 0)
	for _, n := range []int{math.MinInt, -1, 0, 1, math.MaxInt} {
		wantAcked(t, none, n, 0)
		wantGone(t, none, n)
	}
	if !none.Over() {
		t.Error("nil is not over")
	}
	zero := &Sender{}
	wantUnderWay(t, zero, 0)
	wantAcked(t, zero, 0, 0)
	wantAcked(t, zero, 1, 0)
	wantAgain(t, zero, 9)
	wantRefused(t, zero, 0, api.ErrFull)
}

func TestTimersOwnCalls(t *testing.T) {
	w, _ := timer.New(2, 5, 3)
	x, _ := New(2, w)
	wantSent(t, x, 0, 0)
	if x.Timer != w || x.Len() != 1 || w.Len() != 1 || x.Wait(0) != 2 || x.Wait(9) != 5 {
		t.Errorf("Len %d, %d, Wait %d, %d", x.Len(), w.Len(), x.Wait(0), x.Wait(9))
	}
}

// P25.3

// sent is a body of a model.
type sent struct {
	seq, since, told int
	body             []byte
}

func TestAsAModel(t *testing.T) {
	r := rand.New(rand.NewSource(25))
	for range 200 {
		window, base, tries := 1+r.Intn(16), 1+r.Intn(4), 2+r.Intn(4)
		most := base + r.Intn(10)
		x := mustNew(t, window, base, most, tries)
		var model []sent
		next, over := 0, false
		for now := 0; now < 200 && !over; now += r.Intn(3) {
			if r.Intn(2) == 0 && len(model) < window {
				body := bytes.Repeat([]byte{byte(next)}, r.Intn(3))
				wantSent(t, x, now, next, body...)
				model = append(model, sent{seq: next, since: now, body: body})
				next++
			}
			if len(model) == window {
				wantRefused(t, x, now, api.ErrFull)
			}
			if r.Intn(3) == 0 {
				ack := next - len(model) + r.Intn(len(model)+4) - 1
				came := 0
				for ack <= next && len(model) > 0 && model[0].seq < ack {
					came++
					model = model[1:]
				}
				wantAcked(t, x, ack, came)
			}
			var again []int
			for i, w := range model {
				if now-w.since < min(base<<w.told, most) {
					continue
				}
				over = over || w.told == tries
				model[i].since, model[i].told = now, w.told+1
				again = append(again, w.seq)
			}
			if over {
				wantGone(t, x, now)
				break
			}
			wantAgain(t, x, now, again...)
			var bodies [][]byte
			for _, w := range model {
				bodies = append(bodies, w.body)
			}
			wantUnderWay(t, x, next-len(model), bodies...)
			if x.Room() != window-len(model) || x.Len() != len(model) {
				t.Errorf("Room %d, Len %d; want %d, %d", x.Room(), x.Len(), window-len(model), len(model))
			}
		}
		if t.Failed() {
			return
		}
	}
}

func TestArgumentsAndAnswers(t *testing.T) {
	x, other := mustNew(t, 3, 2, 2, 1), mustNew(t, 3, 2, 2, 1)
	room := []byte{5, 6, 7, 8}
	wantSent(t, x, 0, 0, room[:2]...)
	wantSent(t, x, 0, 1, 9)
	if !bytes.Equal(room, []byte{5, 6, 7, 8}) {
		t.Errorf("the body, or its room, was changed: %v", room)
	}
	sample.Overwrite(room, 99)
	body, _ := x.Body(0)
	sample.Overwrite(body, 99)
	wantUnderWay(t, x, 0, []byte{5, 6}, []byte{9})
	kept, _ := x.Body(1)
	again, _ := x.Again(2)
	wantAcked(t, x, 2, 2)
	wantSent(t, x, 3, 2, 1)
	if !bytes.Equal(kept, []byte{9}) || !slices.Equal(again, []int{0, 1}) {
		t.Errorf("an answer was changed: %v, %v", kept, again)
	}
	sample.Overwrite(again, 2)
	wantAgain(t, x, 5, 2)
	wantUnderWay(t, other, 0)
}
