package timer

import (
	"fmt"
	"math"
	"math/rand"
	"slices"
	"testing"

	"milepost/api"
	"milepost/sample"
)

// mustNew is a Timer that may be.
func mustNew(t *testing.T, base, most, tries int) *Timer {
	t.Helper()
	x, e := New(base, most, tries)
	if e != api.OK || x == nil {
		t.Fatalf("New(%d, %d, %d): %v, %d", base, most, tries, x, e)
	}
	return x
}

// wantWaits asks for the waits behind 0, 1, .. tries.
func wantWaits(t *testing.T, x *Timer, want ...int) {
	t.Helper()
	for n, w := range want {
		if got := x.Wait(n); got != w {
			t.Errorf("Wait(%d) = %d, want %d", n, got, w)
		}
	}
}

// wantDue asks who is again, and who is over, and how many are waited for then.
func wantDue(t *testing.T, x *Timer, now int, again, over []int, left int) {
	t.Helper()
	a, o := x.Due(now)
	if !slices.Equal(a, again) || !slices.Equal(o, over) || x.Len() != left {
		t.Errorf("Due(%d) = %v, %v, Len %d; want %v, %v, %d", now, a, o, x.Len(), again, over, left)
	}
}

// wantQuiet asks that nothing is due at any of these.
func wantQuiet(t *testing.T, x *Timer, from, to, left int) {
	t.Helper()
	for now := from; now <= to; now++ {
		wantDue(t, x, now, nil, nil, left)
	}
}

func ExampleTimer_Wait() {
	x, _ := New(2, 5, 3)
	fmt.Println(x.Wait(0), x.Wait(1), x.Wait(2), x.Wait(3))
	// Output: 2 4 5 5
}

// P24.1

func TestNew(t *testing.T) {
	for _, c := range [][3]int{{1, 1, 0}, {1, 1000, 20}, {1000, 1000, 20}, {7, 7, 1}, {7, 8, 19}} {
		mustNew(t, c[0], c[1], c[2])
	}
	for _, c := range [][3]int{
		{0, 5, 1}, {-1, 5, 1}, {math.MinInt, 5, 1}, {1001, 1001, 1}, {1001, 1000, 1}, {math.MaxInt, math.MaxInt, 1},
		{5, 4, 1}, {5, 0, 1}, {5, -5, 1}, {5, 1001, 1}, {5, math.MaxInt, 1}, {5, math.MinInt, 1},
		{5, 5, -1}, {5, 5, 21}, {5, 5, math.MinInt}, {5, 5, math.MaxInt},
	} {
		if x, e := New(c[0], c[1], c[2]); x != nil || e != api.ErrArg {
			t.Errorf("New(%v) = %v, %d", c, x, e)
		}
	}
}

func TestWait(t *testing.T) {
	wantWaits(t, mustNew(t, 1, 1000, 0), 1, 2, 4, 8, 16, 32, 64, 128, 256, 512, 1000, 1000)
	wantWaits(t, mustNew(t, 3, 24, 5), 3, 6, 12, 24, 24)
	wantWaits(t, mustNew(t, 3, 23, 5), 3, 6, 12, 23, 23)
	wantWaits(t, mustNew(t, 1000, 1000, 5), 1000, 1000, 1000)
	wantWaits(t, mustNew(t, 999, 1000, 5), 999, 1000, 1000)
	x := mustNew(t, 3, 10, 2)
	for _, n := range []int{-1, -2, -63, -64, math.MinInt} {
		if got := x.Wait(n); got != 3 {
			t.Errorf("Wait(%d) = %d", n, got)
		}
	}
	for _, n := range []int{61, 62, 63, 64, 65, 1 << 32, math.MaxInt} {
		if got := x.Wait(n); got != 10 {
			t.Errorf("Wait(%d) = %d", n, got)
		}
	}
}

func TestStart(t *testing.T) {
	x := mustNew(t, 3, 10, 2)
	x.Start(7, 100)
	wantQuiet(t, x, 0, 102, 1)
	wantDue(t, x, 103, []int{7}, nil, 1)
	wantQuiet(t, x, 103, 108, 1)
	// As if it had not been waited for: later, sooner, and with no try.
	x.Start(7, 105)
	wantQuiet(t, x, 105, 107, 1)
	wantDue(t, x, 108, []int{7}, nil, 1)
	x.Start(7, 90)
	wantDue(t, x, 93, []int{7}, nil, 1)
	wantDue(t, x, 99, []int{7}, nil, 1)
	wantDue(t, x, 109, nil, []int{7}, 0)
	x.Start(7, 110)
	wantDue(t, x, 113, []int{7}, nil, 1)
}

func TestStop(t *testing.T) {
	x := mustNew(t, 3, 10, 2)
	for id := range 6 {
		x.Start(id, 0)
	}
	x.Stop()
	x.Stop(-1, 6, math.MinInt, math.MaxInt)
	wantQuiet(t, x, 0, 2, 6)
	x.Stop(4, 1, 4)
	wantDue(t, x, 3, []int{0, 2, 3, 5}, nil, 4)
	x.Stop(5, 0)
	wantDue(t, x, 9, []int{2, 3}, nil, 2)
	x.Stop(2, 3)
	wantDue(t, x, 99, nil, nil, 0)
}

// P24.2

func TestDueNowOrAhead(t *testing.T) {
	x := mustNew(t, 5, 5, 1)
	x.Start(1, 10)
	x.Start(2, 11)
	x.Start(3, 12)
	wantQuiet(t, x, 0, 14, 3)
	wantDue(t, x, 16, []int{1, 2}, nil, 3)
	wantDue(t, x, 16, nil, nil, 3)
	wantDue(t, x, 17, []int{3}, nil, 3)
	wantDue(t, x, 21, nil, []int{1, 2}, 1)
	wantDue(t, x, 99, nil, []int{3}, 0)
	wantDue(t, x, 99, nil, nil, 0)
}

func TestRisingByNumber(t *testing.T) {
	x := mustNew(t, 1, 1, 1)
	ids := []int{5, -3, math.MaxInt, 0, math.MinInt, 2}
	for now, id := range ids {
		x.Start(id, now)
	}
	rising := slices.Sorted(slices.Values(ids))
	wantDue(t, x, 50, rising, nil, 6)
	x.Start(2, 50)
	x.Start(1, 50)
	wantDue(t, x, 60, []int{1, 2}, []int{math.MinInt, -3, 0, 5, math.MaxInt}, 2)
}

func TestLateIsFromNowOn(t *testing.T) {
	x := mustNew(t, 2, 100, 3)
	x.Start(0, 0)
	wantDue(t, x, 50, []int{0}, nil, 1)
	wantQuiet(t, x, 50, 53, 1)
	wantDue(t, x, 60, []int{0}, nil, 1)
	wantQuiet(t, x, 60, 67, 1)
	wantDue(t, x, 68, []int{0}, nil, 1)
	wantQuiet(t, x, 68, 83, 1)
	wantDue(t, x, 84, nil, []int{0}, 0)
}

func TestGreatestTime(t *testing.T) {
	x := mustNew(t, 1000, 1000, 1)
	x.Start(1, 1<<60-1000)
	wantDue(t, x, 1<<60-1, nil, nil, 1)
	wantDue(t, x, 1<<60, []int{1}, nil, 1)
	// Of other times nothing is asked, but that the calls end.
	for _, now := range []int{math.MinInt, -1, 1<<60 + 1, math.MaxInt} {
		x.Start(2, now)
		x.Due(now)
	}
}

func TestNilAndZeroTimer(t *testing.T) {
	var none *Timer
	none.Start(1, 1)
	none.Stop(1)
	none.Stop()
	wantWaits(t, none, 0, 0, 0)
	for _, now := range []int{0, 1, 1 << 60} {
		wantDue(t, none, now, nil, nil, 0)
	}
	var zero Timer
	zero.Stop(1)
	wantWaits(t, &zero, 0, 0, 0)
	wantDue(t, &zero, 5, nil, nil, 0)
	zero.Start(1, 5)
	wantDue(t, &zero, 5, nil, []int{1}, 0)
}

// P24.3

func TestWhoIsNeverStopped(t *testing.T) {
	for _, tries := range []int{0, 1, 2, 7, 20} {
		x := mustNew(t, 3, 40, tries)
		now := 1000
		x.Start(4, now)
		for n := range tries {
			now += x.Wait(n)
			wantDue(t, x, now-1, nil, nil, 1)
			wantDue(t, x, now, []int{4}, nil, 1)
		}
		now += x.Wait(tries)
		wantDue(t, x, now-1, nil, nil, 1)
		wantDue(t, x, now, nil, []int{4}, 0)
		wantQuiet(t, x, now, now+99, 0)
	}
}

// waited is a number of a model: when it was started or told, and how often it was told.
type waited struct {
	id, since, told int
}

func TestAsAModel(t *testing.T) {
	r := rand.New(rand.NewSource(24))
	for range 200 {
		base := 1 + r.Intn(4)
		most, tries := base+r.Intn(10), r.Intn(4)
		x := mustNew(t, base, most, tries)
		var model []waited
		for now := 0; now < 200; now += r.Intn(4) {
			id := r.Intn(5)
			switch r.Intn(6) {
			case 0, 1:
				x.Start(id, now)
				model = slices.DeleteFunc(model, func(w waited) bool { return w.id == id })
				model = append(model, waited{id: id, since: now})
			case 2:
				x.Stop(id, id+1)
				model = slices.DeleteFunc(model, func(w waited) bool { return w.id == id || w.id == id+1 })
			}
			slices.SortFunc(model, func(a, b waited) int { return a.id - b.id })
			var again, over []int
			var left []waited
			for _, w := range model {
				switch {
				case now-w.since < min(base<<w.told, most):
				case w.told < tries:
					w.since, w.told = now, w.told+1
					again = append(again, w.id)
				default:
					over = append(over, w.id)
					continue
				}
				left = append(left, w)
			}
			model = left
			wantDue(t, x, now, again, over, len(model))
		}
		if t.Failed() {
			return
		}
	}
}

func TestArgumentsAndAnswers(t *testing.T) {
	x, other := mustNew(t, 2, 2, 1), mustNew(t, 2, 2, 1)
	for id := range 4 {
		x.Start(id, 0)
	}
	room := []int{3, 1, 2, 0}
	x.Stop(room[:2]...)
	if !slices.Equal(room, []int{3, 1, 2, 0}) {
		t.Errorf("the numbers, or their room, were changed: %v", room)
	}
	again, _ := x.Due(2)
	x.Due(4)
	x.Start(9, 4)
	if !slices.Equal(again, []int{0, 2}) {
		t.Errorf("an answer was changed: %v", again)
	}
	sample.Overwrite(again, 99)
	wantDue(t, x, 6, []int{9}, nil, 1)
	wantDue(t, other, 6, nil, nil, 0)
}
