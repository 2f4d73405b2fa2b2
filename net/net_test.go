package net

import (
	"cmp"
	"fmt"
	"maps"
	"math"
	"math/rand"
	"slices"
	"testing"

	"milepost/api"
	"milepost/sample"
)

// wrong are no numbers of a net of five.
var wrong = []int{math.MinInt, -1, 5, 6, math.MaxInt}

// arc is one without a Mid.
func arc(from, to, w int) api.Arc { return api.Arc{From: from, To: to, W: w, Mid: -1} }

// by is one with a Mid.
func by(from, to, w, mid int) api.Arc { return api.Arc{From: from, To: to, W: w, Mid: mid} }

// badArcs may not be in a net of five.
func badArcs() []api.Arc {
	all := []api.Arc{arc(0, 0, 1), arc(4, 4, 1), arc(0, 1, 0), arc(0, 1, -1), arc(0, 1, math.MinInt), arc(0, 1, 1<<40+1), arc(0, 1, math.MaxInt), by(0, 1, 1, 0), by(0, 1, 1, 1), by(0, 1, 1, -2)}
	for _, v := range wrong {
		all = append(all, arc(v, 0, 1), arc(0, v, 1), arc(v, v, 1))
		if v != -1 {
			all = append(all, by(0, 1, 1, v))
		}
	}
	return all
}

// mustNew is a net that may be.
func mustNew(t *testing.T, n int, arcs ...api.Arc) *Net {
	t.Helper()
	x, e := New(n, arcs...)
	if e != api.OK || x == nil {
		t.Fatalf("New(%d, %v): %v, %d", n, arcs, x, e)
	}
	return x
}

// five is a net of five numbers: three arcs from 1, three to 2, one both ways, and none at 4.
func five(t *testing.T) *Net {
	t.Helper()
	return mustNew(t, 5, arc(3, 2, 4), arc(1, 3, 5), arc(1, 0, 6), arc(0, 2, 7), arc(1, 2, 8), arc(2, 1, 9))
}

// fiveArcs is what is in it.
func fiveArcs() []api.Arc {
	return []api.Arc{arc(0, 2, 7), arc(1, 0, 6), arc(1, 2, 8), arc(1, 3, 5), arc(2, 1, 9), arc(3, 2, 4)}
}

// wantNet asks that all calls tell of n numbers and of these arcs, which stand by From, then by To.
func wantNet(t *testing.T, what string, x *Net, n int, arcs ...api.Arc) {
	t.Helper()
	if x.Len() != n || !slices.Equal(x.All(), arcs) {
		t.Errorf("%s: Len %d, All %v; want %d, %v", what, x.Len(), x.All(), n, arcs)
	}
	for v := -2; v < n+2; v++ {
		var out, in []api.Arc
		for _, a := range arcs {
			if a.From == v {
				out = append(out, a)
			}
			if a.To == v {
				in = append(in, a)
			}
		}
		if !slices.Equal(x.Out(v), out) || !slices.Equal(x.In(v), in) {
			t.Errorf("%s: Out(%d) %v, In %v; want %v, %v", what, v, x.Out(v), x.In(v), out, in)
		}
		if each := slices.Collect(x.Each(v)); !slices.Equal(each, out) {
			t.Errorf("%s: Each(%d) %v, want %v", what, v, each, out)
		}
		for to := -2; to < n+2; to++ {
			wantArc(t, what, x, v, to, arcs)
		}
	}
}

// wantArc asks for the one of some arcs from there to there, or that there is none.
func wantArc(t *testing.T, what string, x *Net, from, to int, arcs []api.Arc) {
	t.Helper()
	at := slices.IndexFunc(arcs, func(a api.Arc) bool { return a.From == from && a.To == to })
	want := api.Arc{}
	if at >= 0 {
		want = arcs[at]
	}
	if got, ok := x.Arc(from, to); got != want || ok != (at >= 0) {
		t.Errorf("%s: Arc(%d, %d) = %v, %t; want %v", what, from, to, got, ok, want)
	}
}

// wantPut asks whether a Put puts one in.
func wantPut(t *testing.T, x *Net, a api.Arc, want bool) {
	t.Helper()
	if got := x.Put(a); got != want {
		t.Errorf("Put(%v) = %t", a, got)
	}
}

func ExampleNew() {
	x, _ := New(2, api.Arc{From: 0, To: 1, W: 5, Mid: -1}, api.Arc{From: 0, To: 1, W: 3, Mid: -1})
	fmt.Println(x.All())
	// Output: [{0 1 3 -1}]
}

// P13.1

func TestNewOfNumbers(t *testing.T) {
	for _, n := range []int{0, 1, 2, 511, 512} {
		if x := mustNew(t, n); x.Len() != n || len(x.All()) != 0 {
			t.Errorf("of %d: Len %d, All %v", n, x.Len(), x.All())
		}
	}
	for _, n := range []int{math.MinInt, -1, 513, math.MaxInt} {
		if x, e := New(n); x != nil || e != api.ErrArg {
			t.Errorf("New(%d) = %v, %d", n, x, e)
		}
	}
}

func TestNewOfArcs(t *testing.T) {
	wantNet(t, "five", five(t), 5, fiveArcs()...)
	wantNet(t, "ends", mustNew(t, 5, arc(4, 0, 1<<40), arc(0, 4, 1), by(1, 2, 3, 0), by(2, 1, 3, 4)), 5, arc(0, 4, 1), by(1, 2, 3, 0), by(2, 1, 3, 4), arc(4, 0, 1<<40))
	last := arc(511, 0, 5)
	if got, ok := mustNew(t, 512, last).Arc(511, 0); got != last || !ok {
		t.Errorf("of the last number: %v, %t", got, ok)
	}
}

func TestNewRefuses(t *testing.T) {
	for _, a := range badArcs() {
		for _, arcs := range [][]api.Arc{{a}, {arc(0, 1, 1), a}, {a, arc(0, 1, 1)}} {
			if x, e := New(5, arcs...); x != nil || e != api.ErrArg {
				t.Errorf("New(5, %v) = %v, %d", arcs, x, e)
			}
		}
	}
	if x, e := New(0, arc(0, 1, 1)); x != nil || e != api.ErrArg {
		t.Errorf("of no numbers: %v, %d", x, e)
	}
	// A Mid is wrong in an arc that would not stay, too.
	if x, e := New(3, arc(0, 1, 1), by(0, 1, 9, 1)); x != nil || e != api.ErrArg {
		t.Errorf("a heavier one that may not be: %v, %d", x, e)
	}
}

func TestPut(t *testing.T) {
	x := five(t)
	wantPut(t, x, arc(1, 2, 8), false)
	wantPut(t, x, by(1, 2, 8, 0), false)
	wantPut(t, x, arc(1, 2, 9), false)
	wantNet(t, "no lighter ones", x, 5, fiveArcs()...)
	wantPut(t, x, by(1, 2, 7, 4), true)
	wantPut(t, x, arc(4, 2, 1<<40), true)
	wantPut(t, x, arc(1, 4, 1), true)
	want := []api.Arc{arc(0, 2, 7), arc(1, 0, 6), by(1, 2, 7, 4), arc(1, 3, 5), arc(1, 4, 1), arc(2, 1, 9), arc(3, 2, 4), arc(4, 2, 1<<40)}
	wantNet(t, "lighter and new ones", x, 5, want...)
}

func TestPutRefuses(t *testing.T) {
	x := five(t)
	for _, a := range badArcs() {
		wantPut(t, x, a, false)
	}
	wantNet(t, "refused", x, 5, fiveArcs()...)
}

// P13.2

func TestNoNumber(t *testing.T) {
	x := five(t)
	for _, v := range wrong {
		if out, in := x.Out(v), x.In(v); len(out) != 0 || len(in) != 0 {
			t.Errorf("Out(%d) = %v, In %v", v, out, in)
		}
		for _, to := range []int{v, 0, 1, 2} {
			wantArc(t, "no number", x, v, to, nil)
			wantArc(t, "no number", x, to, v, fiveArcs())
		}
		x.Cut(v)
	}
	wantNet(t, "Cut of none", x, 5, fiveArcs()...)
}

func TestCut(t *testing.T) {
	x := five(t)
	x.Cut(4)
	wantNet(t, "without arcs", x, 5, fiveArcs()...)
	x.Cut(2)
	wantNet(t, "2", x, 5, arc(1, 0, 6), arc(1, 3, 5))
	x.Cut(2)
	x.Cut(3)
	wantNet(t, "3", x, 5, arc(1, 0, 6))
	// What is cut is a number still.
	wantPut(t, x, arc(2, 1, 99), true)
	wantPut(t, x, arc(3, 2, 98), true)
	wantNet(t, "anew", x, 5, arc(1, 0, 6), arc(2, 1, 99), arc(3, 2, 98))
}

func TestCopy(t *testing.T) {
	x := five(t)
	c := x.Copy()
	wantNet(t, "copy", c, 5, fiveArcs()...)
	x.Cut(1)
	x.Put(arc(4, 0, 1))
	x.Put(arc(0, 2, 1))
	wantNet(t, "the other one changed", c, 5, fiveArcs()...)
	c.Cut(0)
	c.Put(arc(3, 2, 1))
	c.Put(arc(3, 4, 1))
	wantNet(t, "first", x, 5, arc(0, 2, 1), arc(3, 2, 4), arc(4, 0, 1))
	wantNet(t, "second", c, 5, arc(1, 2, 8), arc(1, 3, 5), arc(2, 1, 9), arc(3, 2, 1), arc(3, 4, 1))
}

func TestNilAndZeroNet(t *testing.T) {
	var none *Net
	if none.Copy() != nil {
		t.Error("a Copy of nil")
	}
	for what, x := range map[string]*Net{"nil": none, "zero": {}, "of 0": mustNew(t, 0), "copy": new(Net).Copy()} {
		wantPut(t, x, arc(0, 1, 1), false)
		x.Cut(0)
		x.Cut(-1)
		wantNet(t, what, x, 0)
	}
}

// P13.3

// pair is from where to where an arc goes.
type pair struct{ from, to int }

// model is the arcs of a net by their ends.
type model map[pair]api.Arc

// put puts an arc in.
func (m model) put(a api.Arc) bool {
	old, is := m[pair{a.From, a.To}]
	if is && old.W <= a.W {
		return false
	}
	m[pair{a.From, a.To}] = a
	return true
}

// all is all arcs, in order.
func (m model) all() []api.Arc {
	return slices.SortedFunc(maps.Values(m), func(a, b api.Arc) int {
		return cmp.Or(cmp.Compare(a.From, b.From), cmp.Compare(a.To, b.To))
	})
}

func TestLightestAndFirst(t *testing.T) {
	x := mustNew(t, 5, by(0, 1, 5, 2), by(0, 1, 3, 4), by(0, 1, 3, 3), arc(0, 1, 4), arc(0, 1, 3))
	wantNet(t, "New", x, 5, by(0, 1, 3, 4))
	r := rand.New(rand.NewSource(13))
	for range 100 {
		n := 2 + r.Intn(9)
		arcs := sample.Arcs(r.Intn, n, r.Intn(4*n), 5)
		m := model{}
		for _, a := range arcs {
			m.put(a)
		}
		wantNet(t, "New", mustNew(t, n, arcs...), n, m.all()...)
	}
}

func TestAsAModel(t *testing.T) {
	r := rand.New(rand.NewSource(130))
	for range 100 {
		n := 2 + r.Intn(7)
		x, m := mustNew(t, n), model{}
		for range 40 {
			a := sample.Arcs(r.Intn, n, 1, 9)[0]
			wantPut(t, x, a, m.put(a))
			if r.Intn(8) == 0 {
				v := r.Intn(n)
				x.Cut(v)
				maps.DeleteFunc(m, func(p pair, _ api.Arc) bool { return p.from == v || p.to == v })
			}
			if r.Intn(8) == 0 {
				x = x.Copy()
			}
		}
		wantNet(t, "model", x, n, m.all()...)
		if t.Failed() {
			return
		}
	}
}

func TestEachEndsEarly(t *testing.T) {
	told := 0
	for range mustNew(t, 3, arc(0, 1, 1), arc(0, 2, 1)).Each(0) {
		told++
		break
	}
	if told != 1 {
		t.Errorf("%d were told", told)
	}
}

func TestMostArcs(t *testing.T) {
	x := mustNew(t, 512)
	// The last ones first, so that each one stands ahead of those that are there.
	for i := 512 * 512; i > 0; i-- {
		x.Put(arc((i-1)/512, (i-1)%512, i))
	}
	if all, out, in := len(x.All()), len(x.Out(7)), len(x.In(7)); all != 512*511 || out != 511 || in != 511 {
		t.Errorf("%d arcs, %d from 7, %d to 7", all, out, in)
	}
	for v := range 511 {
		x.Cut(v)
	}
	if all := x.All(); len(all) != 0 {
		t.Errorf("of one number: %d arcs", len(all))
	}
}

func TestArgumentsAndAnswers(t *testing.T) {
	room := []api.Arc{arc(3, 2, 4), arc(0, 1, 5), arc(0, 1, 3), arc(1, 0, 9)}
	x := mustNew(t, 5, room[:3]...)
	if !slices.Equal(room, []api.Arc{arc(3, 2, 4), arc(0, 1, 5), arc(0, 1, 3), arc(1, 0, 9)}) {
		t.Errorf("the arcs, or their room, were changed: %v", room)
	}
	sample.Overwrite(room, arc(4, 4, 4))
	out, in, all := x.Out(0), x.In(1), x.All()
	sample.Overwrite(x.Out(0), arc(4, 4, 4))
	sample.Overwrite(x.In(1), arc(4, 4, 4))
	sample.Overwrite(x.All(), arc(4, 4, 4))
	wantNet(t, "overwritten", x, 5, arc(0, 1, 3), arc(3, 2, 4))
	x.Put(by(0, 1, 2, 4))
	x.Cut(3)
	if got := fmt.Sprint(out, in, all); got != "[{0 1 3 -1}] [{0 1 3 -1}] [{0 1 3 -1} {3 2 4 -1}]" {
		t.Errorf("an answer was changed: %s", got)
	}
}
