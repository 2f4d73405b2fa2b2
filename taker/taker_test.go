package taker

import (
	"fmt"
	"math"
	"math/rand"
	"slices"
	"testing"

	"milepost/api"
	"milepost/sample"
)

// mustNew is a Taker that may be.
func mustNew(t *testing.T, window int) *Taker {
	t.Helper()
	x, e := New(window)
	if e != api.OK || x == nil {
		t.Fatalf("New(%d): %v, %d", window, x, e)
	}
	return x
}

// body is what is sent with a number: its bytes, the low one first; of 0 none.
func body(seq int) []byte {
	var b []byte
	for ; seq > 0; seq >>= 8 {
		b = append(b, byte(seq))
	}
	return b
}

// bodies are those of some numbers, one behind the other.
func bodies(from, to int) [][]byte {
	var all [][]byte
	for seq := from; seq < to; seq++ {
		all = append(all, body(seq))
	}
	return all
}

// wantTaken asks that a body is taken, that those up to next are got, and who is held then.
func wantTaken(t *testing.T, x *Taker, seq, next int, held ...int) {
	t.Helper()
	want := bodies(x.Next(), next)
	got, is := x.Take(seq, body(seq)...)
	if !is || !slices.EqualFunc(got, want, slices.Equal) {
		t.Errorf("Take(%d) = %v, %t; want %v, true", seq, got, is, want)
	}
	wantAt(t, x, next, held...)
}

// wantNotTaken asks that a body is not taken, and changes nothing.
func wantNotTaken(t *testing.T, x *Taker, seq int) {
	t.Helper()
	next, held := x.Next(), x.Held()
	if got, is := x.Take(seq, 99, 99); is || len(got) != 0 {
		t.Errorf("Take(%d) = %v, %t; want false", seq, got, is)
	}
	wantAt(t, x, next, held...)
}

// wantAt asks how many were got, and who is held.
func wantAt(t *testing.T, x *Taker, next int, held ...int) {
	t.Helper()
	if x.Next() != next || !slices.Equal(x.Held(), held) {
		t.Errorf("Next %d, Held %v; want %d, %v", x.Next(), x.Held(), next, held)
	}
}

func ExampleTaker_Take() {
	x, _ := New(2)
	fmt.Println(x.Take(1, 5))
	fmt.Println(x.Take(0, 6, 7))
	// Output:
	// [] true
	// [[6 7] [5]] true
}

// P26.1

func TestNew(t *testing.T) {
	for _, window := range []int{1, 2, 15, 16} {
		wantAt(t, mustNew(t, window), 0)
	}
	for _, window := range []int{math.MinInt, -1, 0, 17, math.MaxInt} {
		if x, e := New(window); x != nil || e != api.ErrArg {
			t.Errorf("New(%d) = %v, %d", window, x, e)
		}
	}
}

func TestInOrder(t *testing.T) {
	for _, window := range []int{1, 2, 3, 16} {
		x := mustNew(t, window)
		for seq := range 600 {
			wantTaken(t, x, seq, seq+1)
		}
	}
}

func TestOutOfOrder(t *testing.T) {
	x := mustNew(t, 4)
	wantTaken(t, x, 3, 0, 3)
	wantTaken(t, x, 1, 0, 1, 3)
	wantTaken(t, x, 0, 2, 3)
	wantTaken(t, x, 5, 2, 3, 5)
	wantTaken(t, x, 4, 2, 3, 4, 5)
	wantTaken(t, x, 2, 6)
	wantTaken(t, x, 6, 7)
}

func TestOnce(t *testing.T) {
	x := mustNew(t, 4)
	wantTaken(t, x, 2, 0, 2)
	wantNotTaken(t, x, 2)
	wantTaken(t, x, 0, 1, 2)
	wantNotTaken(t, x, 0)
	wantNotTaken(t, x, 2)
	wantTaken(t, x, 1, 3)
	for seq := range 3 {
		wantNotTaken(t, x, seq)
	}
}

func TestWindow(t *testing.T) {
	for _, window := range []int{1, 2, 5, 16} {
		x := mustNew(t, window)
		for next := range 40 {
			for _, seq := range []int{math.MinInt, -window, -1, next - window, next - 1, next + window, next + window + 1, next + 2*window, math.MaxInt - 1, math.MaxInt} {
				wantNotTaken(t, x, seq)
			}
			wantTaken(t, x, next, next+1)
		}
	}
	x := mustNew(t, 16)
	wantTaken(t, x, 15, 0, 15)
	wantNotTaken(t, x, 16)
	wantTaken(t, x, 0, 1, 15)
	wantTaken(t, x, 16, 1, 15, 16)
	wantNotTaken(t, x, 17)
}

func TestNoBytes(t *testing.T) {
	x := mustNew(t, 3)
	if got, is := x.Take(1); len(got) != 0 || !is {
		t.Errorf("Take(1) = %v, %t", got, is)
	}
	wantAt(t, x, 0, 1)
	if got, is := x.Take(1, 7); len(got) != 0 || is {
		t.Errorf("Take(1) once more = %v, %t", got, is)
	}
	if got, is := x.Take(0, nil...); len(got) != 2 || len(got[0]) != 0 || len(got[1]) != 0 || !is {
		t.Errorf("Take(0) = %v, %t", got, is)
	}
	wantAt(t, x, 2)
}

func TestNilAndZeroTaker(t *testing.T) {
	for _, x := range []*Taker{nil, {}} {
		for _, seq := range []int{math.MinInt, -1, 0, 1, math.MaxInt} {
			wantNotTaken(t, x, seq)
		}
		wantAt(t, x, 0)
	}
}

// P26.2

func TestWhateverOrderAndHowOften(t *testing.T) {
	r := rand.New(rand.NewSource(26))
	for range 200 {
		window := 1 + r.Intn(16)
		x := mustNew(t, window)
		came := map[int]bool{}
		var got [][]byte
		for range 400 {
			// Elder ones, those in the window, and some that are too far on.
			seq := x.Next() - window + r.Intn(3*window)
			may := seq >= x.Next() && seq < x.Next()+window && !came[seq]
			in, is := x.Take(seq, body(max(seq, 0))...)
			if is != may {
				t.Fatalf("Take(%d) at %d of a window of %d: %t", seq, x.Next(), window, is)
			}
			came[seq] = came[seq] || is
			got = append(got, in...)
			if len(got) != x.Next() {
				t.Fatalf("%d were got, Next is %d", len(got), x.Next())
			}
			var held []int
			for seq := x.Next(); seq < x.Next()+window; seq++ {
				if came[seq] {
					held = append(held, seq)
				}
			}
			wantAt(t, x, len(got), held...)
		}
		if !slices.EqualFunc(got, bodies(0, len(got)), slices.Equal) {
			t.Fatalf("got %v", got)
		}
	}
}

func TestArgumentsAndAnswers(t *testing.T) {
	x := mustNew(t, 3)
	room := []byte{5, 6, 7, 8}
	x.Take(1, room[:2]...)
	sample.Overwrite(room[:2], 9)
	room = []byte{1, 2, 3}
	got, _ := x.Take(0, room[:2]...)
	if !slices.Equal(room, []byte{1, 2, 3}) {
		t.Errorf("the body, or its room, was changed: %v", room)
	}
	sample.Overwrite(room, 9)
	x.Take(3, 4)
	held := x.Held()
	sample.Overwrite(x.Held(), 9)
	wantAt(t, x, 2, 3)
	more, _ := x.Take(2, 3)
	sample.Overwrite(more[0], 9)
	sample.Overwrite(more, nil)
	if fmt.Sprint(got, held) != "[[1 2] [5 6]] [3]" {
		t.Errorf("an answer was changed: %v, %v", got, held)
	}
	// Those of one answer share no memory: room of one reaches into no other.
	sample.Overwrite(got[0], 9)
	if !slices.Equal(got[1], []byte{5, 6}) {
		t.Errorf("the second one was changed with the first one: %v", got[1])
	}
}

func TestTakersHaveNothingInCommon(t *testing.T) {
	x, other := mustNew(t, 2), mustNew(t, 2)
	wantTaken(t, x, 1, 0, 1)
	wantAt(t, other, 0)
	wantTaken(t, other, 0, 1)
	wantAt(t, x, 0, 1)
}
