package rank

import (
	"fmt"
	"math"
	"math/rand"
	"slices"
	"testing"

	"milepost/api"
	"milepost/net"
	"milepost/sample"
	"milepost/witness"
)

// wrong are no numbers of a net of five.
var wrong = []int{math.MinInt, -1, 5, 6, math.MaxInt}

// arc is one without a Mid.
func arc(from, to, w int) api.Arc { return api.Arc{From: from, To: to, W: w, Mid: -1} }

// by is one that stands for two.
func by(from, to, w, mid int) api.Arc { return api.Arc{From: from, To: to, W: w, Mid: mid} }

// netOf is a net that may be.
func netOf(n int, arcs ...api.Arc) *net.Net {
	x, _ := net.New(n, arcs...)
	return x
}

// star is arcs from 0 and 1 to 2, and from there to 0, 1 and 3; 4 has none.
func star(more ...api.Arc) *net.Net {
	return netOf(5, append([]api.Arc{arc(0, 2, 1), arc(1, 2, 2), arc(2, 3, 3), arc(2, 1, 4), arc(2, 0, 5)}, more...)...)
}

// shortcuts is the chapter's Shortcuts, pair by pair by witness.Find.
func shortcuts(x *net.Net, v int) []api.Arc {
	var all []api.Arc
	for _, a := range x.In(v) {
		for _, b := range x.Out(v) {
			if sum := a.W + b.W; a.From != b.To && !witness.Find(x, a.From, b.To, v, sum, 30) {
				all = append(all, by(a.From, b.To, sum, v))
			}
		}
	}
	return all
}

// worth is the chapter's Worth.
func worth(x *net.Net, v int) int { return len(shortcuts(x, v)) - len(x.In(v)) - len(x.Out(v)) }

// first is the chapter's First.
func first(x *net.Net, gone []bool) int {
	best, least := -1, math.MaxInt
	for v := range x.Len() {
		if isGone := v < len(gone) && gone[v]; !isGone && worth(x, v) < least {
			best, least = v, worth(x, v)
		}
	}
	return best
}

// anyNet is a net of up to so many numbers: the more there are, the more a search leaves out.
func anyNet(r *rand.Rand, most int) *net.Net {
	n := 2 + r.Intn(most)
	return netOf(n, sample.Arcs(r.Intn, n, r.Intn(6*n), 1+r.Intn(30))...)
}

// wantShortcuts asks for the shortcuts of a number.
func wantShortcuts(t *testing.T, x *net.Net, v int, want ...api.Arc) {
	t.Helper()
	if got := Shortcuts(x, v); !slices.Equal(got, want) {
		t.Errorf("Shortcuts(%d) = %v, want %v", v, got, want)
	}
}

// wantWorth asks for the Worth of 0, 1, ..
func wantWorth(t *testing.T, x *net.Net, want ...int) {
	t.Helper()
	for v, w := range want {
		if got := Worth(x, v); got != w {
			t.Errorf("Worth(%d) = %d, want %d", v, got, w)
		}
	}
}

// wantFirst asks who is first.
func wantFirst(t *testing.T, x *net.Net, want int, gone ...bool) {
	t.Helper()
	if got := First(x, gone); got != want {
		t.Errorf("First(%v) = %d, want %d", gone, got, want)
	}
}

func ExampleShortcuts() {
	x, _ := net.New(3, api.Arc{From: 0, To: 1, W: 2, Mid: -1}, api.Arc{From: 1, To: 2, W: 3, Mid: -1})
	fmt.Println(Shortcuts(x, 1), Worth(x, 1), First(x, nil))
	// Output: [{0 2 5 1}] -1 0
}

// P15.1

func TestShortcutsInOrder(t *testing.T) {
	wantShortcuts(t, star(), 2, by(0, 1, 5, 2), by(0, 3, 4, 2), by(1, 0, 7, 2), by(1, 3, 5, 2))
	for _, v := range []int{0, 1, 3, 4} {
		wantShortcuts(t, star(), v)
	}
	// The arcs' own Mids do not matter.
	wantShortcuts(t, netOf(4, by(0, 1, 5, 3), by(1, 2, 6, 3)), 1, by(0, 2, 11, 1))
}

func TestOtherWays(t *testing.T) {
	// As short is enough, and one more is not.
	wantShortcuts(t, star(arc(0, 3, 4)), 2, by(0, 1, 5, 2), by(1, 0, 7, 2), by(1, 3, 5, 2))
	wantShortcuts(t, star(arc(0, 3, 5)), 2, by(0, 1, 5, 2), by(0, 3, 4, 2), by(1, 0, 7, 2), by(1, 3, 5, 2))
	// By others, too; but never by the one that is taken out.
	wantShortcuts(t, star(arc(0, 4, 2), arc(4, 3, 2)), 2, by(0, 1, 5, 2), by(1, 0, 7, 2), by(1, 3, 5, 2))
	wantShortcuts(t, star(arc(0, 4, 2), arc(4, 2, 1)), 2, by(0, 1, 5, 2), by(0, 3, 4, 2), by(1, 0, 7, 2), by(1, 3, 5, 2), by(4, 0, 6, 2), by(4, 1, 5, 2), by(4, 3, 4, 2))
}

// crowd is a row 0 1 2 of 200, another way from 0 to 2 of 100, and so many numbers that are 1 from 0.
func crowd(many int) *net.Net {
	x := netOf(3+many, arc(0, 1, 100), arc(1, 2, 100), arc(0, 2, 100))
	for v := 3; v < x.Len(); v++ {
		x.Put(arc(0, v, 1))
	}
	return x
}

func TestSettle(t *testing.T) {
	if Settle != 30 {
		t.Errorf("Settle is %d", Settle)
	}
	// 0, and those beside it, are settled ahead of 2: the 30th one still is, the 31st is not.
	wantShortcuts(t, crowd(28), 1)
	wantShortcuts(t, crowd(29), 1, by(0, 2, 200, 1))
	wantWorth(t, crowd(28), -30, -2)
	wantWorth(t, crowd(29), -31, -1)
	// The number that is left out does not count, wherever it would stand.
	y := crowd(28)
	y.Put(arc(0, 1, 1))
	y.Put(arc(0, 2, 1))
	wantShortcuts(t, y, 1)
	y = crowd(29)
	y.Put(arc(0, 1, 1))
	wantShortcuts(t, y, 1, by(0, 2, 101, 1))
}

func TestGreatestWeights(t *testing.T) {
	wantShortcuts(t, netOf(3, arc(0, 1, api.Far), arc(1, 2, api.Far)), 1, by(0, 2, 2*api.Far, 1))
	wantShortcuts(t, netOf(3, arc(0, 1, api.Far), arc(1, 2, api.Far), arc(0, 2, api.Far)), 1)
}

func TestWorth(t *testing.T) {
	wantWorth(t, star(), -2, -2, -1, -1, 0)
	wantWorth(t, star(arc(0, 3, 4), arc(1, 3, 6)), -3, -3, -2, -3, 0)
	wantWorth(t, netOf(2, arc(0, 1, 1), arc(1, 0, 1)), -2, -2)
}

func TestNoNumber(t *testing.T) {
	for _, x := range []*net.Net{star(), nil, {}, netOf(0)} {
		for _, v := range wrong {
			wantShortcuts(t, x, v)
			if got := Worth(x, v); got != 0 {
				t.Errorf("Worth(%d) = %d", v, got)
			}
		}
	}
}

func TestFirst(t *testing.T) {
	x := star(arc(0, 3, 4), arc(1, 3, 6)) // worth -3, -3, -2, -3, 0
	wantFirst(t, x, 0)
	wantFirst(t, x, 0, false, true)
	wantFirst(t, x, 1, true)
	wantFirst(t, x, 3, true, true)
	wantFirst(t, x, 2, true, true, false, true)
	wantFirst(t, x, 4, true, true, true, true)
	wantFirst(t, x, 4, true, true, true, true, false, false)
	wantFirst(t, x, -1, true, true, true, true, true)
	wantFirst(t, x, -1, true, true, true, true, true, false)
	// The least Worth is ahead of the least number.
	wantFirst(t, netOf(3, arc(2, 1, 1), arc(1, 2, 1)), 1)
	wantFirst(t, netOf(3, arc(2, 1, 1), arc(1, 2, 1)), 2, false, true)
	wantFirst(t, netOf(3), 0)
	for _, none := range []*net.Net{nil, {}, netOf(0)} {
		wantFirst(t, none, -1)
		wantFirst(t, none, -1, true, false)
	}
}

func TestAsTheChapterSays(t *testing.T) {
	r := rand.New(rand.NewSource(15))
	for k := range 120 {
		x := anyNet(r, 10+k/2)
		for v := range x.Len() {
			wantShortcuts(t, x, v, shortcuts(x, v)...)
			if got, want := Worth(x, v), worth(x, v); got != want {
				t.Errorf("Worth(%d) = %d, want %d", v, got, want)
			}
		}
		gone := sample.Mask(r.Intn, r.Intn(x.Len()+2), 2)
		wantFirst(t, x, first(x, gone), gone...)
		if t.Failed() {
			t.Fatalf("of %d: %v", x.Len(), x.All())
		}
	}
}

// What is found one after the other is what is found anew each time.

func TestTakeAfterTake(t *testing.T) {
	r := rand.New(rand.NewSource(150))
	for k := range 30 {
		x := anyNet(r, 10+2*k)
		y, gone := x.Copy(), make([]bool, x.Len())
		rest := Begin(x)
		for range gone {
			v, want := rest.First(gone), first(y, gone)
			if v != want {
				t.Fatalf("First is %d, want %d, of %v", v, want, y.All())
			}
			cuts := shortcuts(y, v)
			if got := rest.Take(v); !slices.Equal(got, cuts) {
				t.Fatalf("Take(%d) = %v, want %v, of %v", v, got, cuts, y.All())
			}
			for _, a := range cuts {
				y.Put(a)
			}
			y.Cut(v)
			gone[v] = true
			if !slices.Equal(x.All(), y.All()) {
				t.Fatalf("left are %v, want %v", x.All(), y.All())
			}
		}
		if got := rest.First(gone); got != -1 {
			t.Fatalf("First of none: %d", got)
		}
	}
}

func TestTakeInAnyOrder(t *testing.T) {
	r := rand.New(rand.NewSource(151))
	for k := range 30 {
		x := anyNet(r, 10+2*k)
		rest := Begin(x)
		for _, v := range r.Perm(x.Len()) {
			for range 5 {
				w := r.Intn(x.Len())
				if got, want := rest.Shortcuts(w), shortcuts(x, w); !slices.Equal(got, want) {
					t.Fatalf("Shortcuts(%d) = %v, want %v, of %v", w, got, want, x.All())
				}
				if got, want := rest.Worth(w), worth(x, w); got != want {
					t.Fatalf("Worth(%d) = %d, want %d, of %v", w, got, want, x.All())
				}
			}
			rest.Take(v)
		}
	}
}

func TestTakeOfOneMetByASearchThatLeftAnotherOut(t *testing.T) {
	const x, v, w = 1, 2, 3
	n := netOf(61, arc(0, x, 1), arc(x, w, 20), arc(0, v, 5), arc(0, w, 10))
	// Without x, 0 and v and these 28 are settled, and w is the next one; with x, the other 29 are nearer than v.
	for z := 4; z < 32; z++ {
		n.Put(arc(0, z, 6))
	}
	var cuts []api.Arc
	for y := 32; y < 61; y++ {
		n.Put(arc(x, y, 1))
		cuts = append(cuts, by(0, y, 2, x))
	}
	rest := Begin(n)
	if got, want := rest.Shortcuts(x), append([]api.Arc{by(0, w, 21, x)}, cuts...); !slices.Equal(got, want) {
		t.Errorf("Shortcuts(x) = %v, want %v", got, want)
	}
	rest.Take(v)
	if got := rest.Shortcuts(x); !slices.Equal(got, cuts) {
		t.Errorf("Shortcuts(x) behind Take(v) = %v, want %v", got, cuts)
	}
}

// P15.2

func TestAllThatAreLeftAreAsFar(t *testing.T) {
	r := rand.New(rand.NewSource(152))
	for range 100 {
		x := anyNet(r, 40)
		v := r.Intn(x.Len())
		y := x.Copy()
		for _, a := range Shortcuts(x, v) {
			y.Put(a)
		}
		y.Cut(v)
		for range 100 {
			a, b := r.Intn(x.Len()), r.Intn(x.Len())
			want, is := witness.Far(x, a, b)
			if got, ok := witness.Far(y, a, b); a != v && b != v && (got != want || ok != is) {
				t.Fatalf("without %d, from %d to %d: %d, %t; want %d, %t; of %v", v, a, b, got, ok, want, is, x.All())
			}
		}
	}
}

func TestArgumentsAndAnswers(t *testing.T) {
	x := star()
	all := x.All()
	gone := []bool{true, false, true, false, false}
	First(x, gone[:2])
	Worth(x, 2)
	sample.Overwrite(Shortcuts(x, 2), arc(4, 4, 4))
	if !slices.Equal(x.All(), all) || !slices.Equal(gone, []bool{true, false, true, false, false}) {
		t.Errorf("an argument was changed: %v, %v", x.All(), gone)
	}
	wantShortcuts(t, x, 2, by(0, 1, 5, 2), by(0, 3, 4, 2), by(1, 0, 7, 2), by(1, 3, 5, 2))
}
