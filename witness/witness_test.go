package witness

import (
	"fmt"
	"math"
	"math/rand"
	"slices"
	"testing"

	"milepost/api"
	"milepost/net"
	"milepost/sample"
)

// wrong are no numbers of a net of six.
var wrong = []int{math.MinInt, -1, 6, 7, math.MaxInt}

// arc is one without a Mid.
func arc(from, to, w int) api.Arc { return api.Arc{From: from, To: to, W: w, Mid: -1} }

// netOf is a net that may be.
func netOf(n int, arcs ...api.Arc) *net.Net {
	x, _ := net.New(n, arcs...)
	return x
}

// six is a net in which from 0 are settled: 0 at 0, 1 at 1, 2 and 4 at 2, 3 at 3; 5 can't be reached.
func six() *net.Net {
	return netOf(6, arc(0, 4, 2), arc(4, 3, 9), arc(0, 1, 1), arc(1, 2, 1), arc(2, 3, 1), arc(0, 3, 4), arc(5, 0, 1))
}

// wantFind asks whether something is found.
func wantFind(t *testing.T, x *net.Net, from, to, without, most, settle int, want bool) {
	t.Helper()
	if got := Find(x, from, to, without, most, settle); got != want {
		t.Errorf("Find(from %d, to %d, without %d, most %d, settle %d) = %t", from, to, without, most, settle, got)
	}
}

// wantFar asks for a sum; -1 of none.
func wantFar(t *testing.T, x *net.Net, from, to, want int) {
	t.Helper()
	got, ok := Far(x, from, to)
	if ok != (want >= 0) || got != max(want, 0) {
		t.Errorf("Far(%d, %d) = %d, %t; want %d", from, to, got, ok, want)
	}
}

// searched is of each number at what it is settled, -1 of one that is not: word by word as the chapter says, without a heap.
func searched(x *net.Net, from, without, settle int) []int {
	n := x.Len()
	known, settled := make([]int, n), make([]int, n)
	for v := range n {
		known[v], settled[v] = -1, -1
	}
	if from != without {
		known[from] = 0
	}
	for range settle {
		least := -1
		for v := range n {
			if known[v] >= 0 && settled[v] < 0 && (least < 0 || known[v] < known[least]) {
				least = v
			}
		}
		if least < 0 {
			break
		}
		settled[least] = known[least]
		for _, a := range x.Out(least) {
			sum := settled[least] + a.W
			if a.To != without && settled[a.To] < 0 && (known[a.To] < 0 || known[a.To] > sum) {
				known[a.To] = sum
			}
		}
	}
	return settled
}

// sums is of each two numbers the least sum of a row of arcs, -1 if there is none: with more and more numbers in between.
func sums(x *net.Net) [][]int {
	n := x.Len()
	far := make([][]int, n)
	for v := range far {
		far[v] = make([]int, n)
		for w := range n {
			far[v][w] = -1
		}
		for _, a := range x.Out(v) {
			far[v][a.To] = a.W
		}
		far[v][v] = 0
	}
	for mid := range n {
		for v := range n {
			for w := range n {
				a, b := far[v][mid], far[mid][w]
				if a >= 0 && b >= 0 && (far[v][w] < 0 || a+b < far[v][w]) {
					far[v][w] = a + b
				}
			}
		}
	}
	return far
}

// anyNet is a net of a few numbers.
func anyNet(r *rand.Rand) *net.Net {
	n := 2 + r.Intn(9)
	return netOf(n, sample.Arcs(r.Intn, n, r.Intn(4*n), 6)...)
}

func ExampleFind() {
	x, _ := net.New(3, api.Arc{From: 0, To: 1, W: 2, Mid: -1}, api.Arc{From: 1, To: 2, W: 3, Mid: -1})
	fmt.Println(Find(x, 0, 0, 1, 0, 1), Find(x, 0, 2, -1, 5, 3), Find(x, 0, 2, 1, 5, 3))
	// Output: true true false
}

// P14.1

func TestMost(t *testing.T) {
	x := six()
	wantFind(t, x, 0, 3, 5, 3, 6, true)
	wantFind(t, x, 0, 3, 5, 2, 6, false)
	wantFind(t, x, 0, 3, 5, math.MaxInt, 6, true)
	wantFind(t, x, 0, 0, 5, 0, 6, true)
	for _, most := range []int{-1, math.MinInt} {
		wantFind(t, x, 0, 0, 5, most, 6, false)
		wantFind(t, x, 0, 3, 5, most, 6, false)
	}
	// Two arcs of the greatest weight.
	y := netOf(3, arc(0, 1, api.Far), arc(1, 2, api.Far))
	wantFind(t, y, 0, 2, -1, 2*api.Far, 3, true)
	wantFind(t, y, 0, 2, -1, 2*api.Far-1, 3, false)
}

func TestWithout(t *testing.T) {
	x := six()
	wantFind(t, x, 0, 3, 1, 3, 6, false)
	wantFind(t, x, 0, 3, 1, 4, 6, true)
	wantFind(t, x, 0, 3, 2, 3, 6, false)
	wantFind(t, x, 0, 3, 4, 3, 6, true)
	wantFind(t, x, 0, 3, 3, 99, 6, false)
	wantFind(t, x, 0, 3, 0, 99, 6, false)
	wantFind(t, x, 0, 0, 0, 99, 6, false)
	for _, v := range wrong {
		wantFind(t, x, 0, 3, v, 3, 6, true)
	}
}

func TestSettle(t *testing.T) {
	x := six()
	// 2 is settled ahead of 4, at the same sum.
	for to, nth := range []int{1, 2, 3, 5, 4} {
		wantFind(t, x, 0, to, 5, 99, nth, true)
		wantFind(t, x, 0, to, 5, 99, nth-1, false)
	}
	// Who is left out is not settled, and does not count.
	wantFind(t, x, 0, 4, 2, 99, 3, true)
	wantFind(t, x, 0, 4, 2, 99, 2, false)
	for _, settle := range []int{0, -1, math.MinInt} {
		wantFind(t, x, 0, 0, 5, 99, settle, false)
		wantFind(t, x, 0, 3, 5, 99, settle, false)
	}
	wantFind(t, x, 0, 3, 5, 3, math.MaxInt, true)
	wantFind(t, x, 3, 0, 5, 99, math.MaxInt, false)
}

func TestNoNumber(t *testing.T) {
	x := six()
	for _, v := range wrong {
		wantFind(t, x, v, 3, 5, 99, 9, false)
		wantFind(t, x, 0, v, 5, 99, 9, false)
		wantFind(t, x, v, v, 5, 99, 9, false)
		wantFind(t, x, v, v, v, 99, 9, false)
		wantFar(t, x, v, 3, -1)
		wantFar(t, x, 0, v, -1)
		wantFar(t, x, v, v, -1)
	}
}

func TestNilAndZeroNet(t *testing.T) {
	for _, x := range []*net.Net{nil, {}, netOf(0)} {
		for _, v := range []int{math.MinInt, -1, 0, 1} {
			wantFind(t, x, v, v, 5, 99, 9, false)
			wantFar(t, x, v, v, -1)
		}
	}
}

func TestFar(t *testing.T) {
	x := six()
	for to, want := range []int{0, 1, 2, 3, 2, -1} {
		wantFar(t, x, 0, to, want)
	}
	wantFar(t, x, 5, 3, 4)
	wantFar(t, x, 4, 3, 9)
	wantFar(t, x, 5, 5, 0)
	wantFar(t, x, 3, 0, -1)
	// A row through all numbers, of the greatest weights.
	y := netOf(512)
	for v := range 511 {
		y.Put(arc(v, v+1, api.Far))
	}
	wantFar(t, y, 0, 511, 511*api.Far)
	wantFar(t, y, 511, 0, -1)
}

func TestFindAsTheChapterSays(t *testing.T) {
	r := rand.New(rand.NewSource(14))
	for range 300 {
		x := anyNet(r)
		n := x.Len()
		for range 20 {
			from, without, settle := r.Intn(n), r.Intn(n+1)-1, r.Intn(n+3)
			for to, at := range searched(x, from, without, settle) {
				for most := -1; most < 15; most++ {
					wantFind(t, x, from, to, without, most, settle, at >= 0 && at <= most)
				}
			}
		}
		if t.Failed() {
			t.Fatalf("of %d: %v", n, x.All())
		}
	}
}

func TestFarAsAllSums(t *testing.T) {
	r := rand.New(rand.NewSource(140))
	for range 300 {
		x := anyNet(r)
		for from, row := range sums(x) {
			for to, want := range row {
				wantFar(t, x, from, to, want)
			}
		}
		if t.Failed() {
			t.Fatalf("of %d: %v", x.Len(), x.All())
		}
	}
}

// P14.2

func TestWhatIsFoundIsThere(t *testing.T) {
	r := rand.New(rand.NewSource(142))
	for range 300 {
		x := anyNet(r)
		n := x.Len()
		from, to, without, most := r.Intn(n), r.Intn(n), r.Intn(n+1)-1, r.Intn(20)
		rest := x.Copy()
		rest.Cut(without)
		far, is := Far(rest, from, to)
		is = is && far <= most && from != without && to != without
		found := false
		for settle := range n + 2 {
			again := Find(x, from, to, without, most, settle)
			if again && !is || found && !again {
				t.Fatalf("from %d to %d without %d: with %d settled %t, with one less %t; there is %d, most %d", from, to, without, settle, again, found, far, most)
			}
			found = again
		}
		wantFind(t, x, from, to, without, most, n, is)
	}
}

// Around tells what Find's search settles.

func TestAround(t *testing.T) {
	x := six()
	all := []Stop{{At: 0, Sum: 0, Via: Nobody}, {At: 1, Sum: 1, Via: 0}, {At: 2, Sum: 2, Via: 1}, {At: 4, Sum: 2, Via: 0}, {At: 3, Sum: 3, Via: 2}}
	for settle := range 8 {
		if got, want := Around(x, 0, Nobody, settle), all[:min(settle, 5)]; !slices.Equal(got, want) {
			t.Errorf("Around of %d: %v, want %v", settle, got, want)
		}
	}
	if got := Around(x, 0, 2, 9); fmt.Sprint(got) != "[{0 0 -1} {1 1 0} {4 2 0} {3 4 0}]" {
		t.Errorf("Around without 2: %v", got)
	}
	for _, v := range wrong {
		if got := Around(x, v, Nobody, 9); len(got) != 0 {
			t.Errorf("Around of %d: %v", v, got)
		}
	}
	if got := slices.Concat(Around(x, 0, 0, 9), Around(x, 0, Nobody, -1), Around(nil, 0, Nobody, 9)); len(got) != 0 {
		t.Errorf("Around of nothing: %v", got)
	}
}

func TestAroundAsTheChapterSays(t *testing.T) {
	r := rand.New(rand.NewSource(143))
	for range 500 {
		x := anyNet(r)
		n := x.Len()
		from, without, settle := r.Intn(n), r.Intn(n+1)-1, r.Intn(n+3)
		want := searched(x, from, without, settle)
		got := Around(x, from, without, settle)
		for i, s := range got {
			if want[s.At] != s.Sum || i > 0 && (s.Sum < got[i-1].Sum || s.Sum == got[i-1].Sum && s.At < got[i-1].At) {
				t.Fatalf("Around(%d, %d, %d) = %v, want %v", from, without, settle, got, want)
			}
			want[s.At] = -1
			a, is := x.Arc(s.Via, s.At)
			via := slices.IndexFunc(got[:i], func(p Stop) bool { return p.At == s.Via })
			if i > 0 && (!is || via < 0 || got[via].Sum+a.W != s.Sum) || i == 0 && s.Via != Nobody {
				t.Fatalf("Around(%d, %d, %d) = %v: from whom is %v", from, without, settle, got, s)
			}
		}
		if slices.Max(want) != -1 {
			t.Fatalf("Around(%d, %d, %d) = %v, but for %v", from, without, settle, got, want)
		}
	}
}

func TestNetIsNotChanged(t *testing.T) {
	x := six()
	all := fmt.Sprint(x.Len(), x.All())
	Find(x, 0, 3, 1, 99, 9)
	Far(x, 0, 3)
	Around(x, 0, 1, 9)
	if got := fmt.Sprint(x.Len(), x.All()); got != all {
		t.Errorf("the net was changed: %s", got)
	}
}
