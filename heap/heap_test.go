package heap

import (
	"fmt"
	"math"
	"math/rand"
	"testing"

	"milepost/api"
)

// wantPop asks what is popped.
func wantPop(t *testing.T, h *Heap, id, key int) {
	t.Helper()
	i, k, e := h.Pop()
	if i != id || k != key || e != api.OK {
		t.Errorf("Pop() = %d, %d, %d; want %d, %d, %d", i, k, e, id, key, api.OK)
	}
}

// wantEmpty asks that nothing is there.
func wantEmpty(t *testing.T, h *Heap) {
	t.Helper()
	if i, k, e := h.Pop(); i != 0 || k != 0 || e != api.ErrNone {
		t.Errorf("Pop() = %d, %d, %d; want 0, 0, %d", i, k, e, api.ErrNone)
	}
	if got := h.Len(); got != 0 {
		t.Errorf("Len() = %d, want 0", got)
	}
}

// wantPush asks whether a Push puts something in.
func wantPush(t *testing.T, h *Heap, id, key int, want bool) {
	t.Helper()
	if got := h.Push(id, key); got != want {
		t.Errorf("Push(%d, %d) = %t", id, key, got)
	}
}

// wantKey asks what key is there.
func wantKey(t *testing.T, h *Heap, id, key int, has bool) {
	t.Helper()
	if k, ok := h.Key(id); k != key || ok != has {
		t.Errorf("Key(%d) = %d, %t; want %d, %t", id, k, ok, key, has)
	}
}

func ExampleHeap_Push() {
	var h Heap
	h.Push(5, 9)
	h.Push(5, 3)
	fmt.Println(h.Pop())
	// Output: 5 3 0
}

// P4.1

func TestZeroHeapIsEmpty(t *testing.T) {
	var h Heap
	wantKey(t, &h, 0, 0, false)
	wantEmpty(t, &h)
	wantEmpty(t, &h)
	wantPush(t, &h, 0, 0, true)
	wantPop(t, &h, 0, 0)
	wantEmpty(t, &h)
}

func TestNilHeap(t *testing.T) {
	var h *Heap
	wantPush(t, h, 1, 1, false)
	wantKey(t, h, 1, 0, false)
	wantEmpty(t, h)
}

func TestPushTakesOnlyALesserKey(t *testing.T) {
	var h Heap
	wantPush(t, &h, 5, 9, true)
	wantPush(t, &h, 5, 9, false)
	wantPush(t, &h, 5, 10, false)
	wantKey(t, &h, 5, 9, true)
	wantPush(t, &h, 5, 8, true)
	wantKey(t, &h, 5, 8, true)
	wantPush(t, &h, 5, 9, false)
	if got := h.Len(); got != 1 {
		t.Errorf("Len() = %d of one number", got)
	}
	wantPop(t, &h, 5, 8)
	wantEmpty(t, &h)
}

func TestPoppedIsGone(t *testing.T) {
	var h Heap
	h.Push(5, 1)
	h.Push(6, 2)
	wantPop(t, &h, 5, 1)
	wantKey(t, &h, 5, 0, false)
	wantKey(t, &h, 6, 2, true)
	wantPush(t, &h, 5, 7, true)
	wantKey(t, &h, 5, 7, true)
	wantPop(t, &h, 6, 2)
	wantPop(t, &h, 5, 7)
	wantEmpty(t, &h)
}

func TestLeastKeyThenLeastNumber(t *testing.T) {
	var h Heap
	for _, id := range []int{3, -7, 12, 0, 4} {
		wantPush(t, &h, id, 8, true)
	}
	wantPush(t, &h, 99, 7, true)
	wantPush(t, &h, -99, 9, true)
	wantPop(t, &h, 99, 7)
	for _, id := range []int{-7, 0, 3, 4, 12} {
		wantPop(t, &h, id, 8)
	}
	wantPop(t, &h, -99, 9)
}

func TestGreatestNumbersAndKeys(t *testing.T) {
	ends := []int{math.MaxInt, 0, -1, math.MinInt, 1}
	var h Heap
	for _, id := range ends {
		for _, key := range []int{math.MaxInt, 0, math.MinInt} {
			wantPush(t, &h, id, key, true)
		}
		wantPush(t, &h, id, math.MinInt, false)
	}
	for _, id := range []int{math.MinInt, -1, 0, 1, math.MaxInt} {
		wantPop(t, &h, id, math.MinInt)
	}
	for id, key := range ends {
		wantPush(t, &h, id, key, true)
	}
	for _, key := range []int{math.MinInt, -1, 0, 1, math.MaxInt} {
		if _, got, _ := h.Pop(); got != key {
			t.Errorf("popped the key %d, want %d", got, key)
		}
	}
}

func TestLesserKeyComesAhead(t *testing.T) {
	for id := range 40 {
		var h Heap
		for i := range 40 {
			h.Push(i, 100+i)
		}
		wantPush(t, &h, id, 1, true)
		wantPop(t, &h, id, 1)
		for i := range 40 {
			if i != id {
				wantPop(t, &h, i, 100+i)
			}
		}
		wantEmpty(t, &h)
	}
}

func TestHeapsHaveNothingInCommon(t *testing.T) {
	var g, h Heap
	g.Push(1, 1)
	h.Push(2, 2)
	wantKey(t, &g, 2, 0, false)
	wantPop(t, &h, 2, 2)
	wantPop(t, &g, 1, 1)
}

// least is the one of a model that is popped next.
func least(model map[int]int) (id int) {
	first := true
	for i, k := range model {
		if first || k < model[id] || k == model[id] && i < id {
			id, first = i, false
		}
	}
	return id
}

func TestAsAModel(t *testing.T) {
	random := rand.New(rand.NewSource(1))
	for range 100 {
		var h Heap
		model := map[int]int{}
		for range 200 {
			id, key := random.Intn(40)-20, random.Intn(30)-15
			was, has := model[id]
			wantPush(t, &h, id, key, !has || key < was)
			if !has || key < was {
				model[id] = key
			}
			if random.Intn(3) == 0 {
				id := least(model)
				wantPop(t, &h, id, model[id])
				delete(model, id)
			}
			if h.Len() != len(model) {
				t.Fatalf("Len() = %d, want %d", h.Len(), len(model))
			}
			for id := -21; id <= 20; id++ {
				key, has := model[id]
				wantKey(t, &h, id, key, has)
			}
		}
		if t.Failed() {
			return
		}
	}
}

// P4.2

func TestPoppedRises(t *testing.T) {
	random := rand.New(rand.NewSource(2))
	for n := range 300 {
		var h Heap
		for id := range n {
			h.Push(id*7%n, random.Intn(20))
			h.Push(id, random.Intn(20))
		}
		for i, k := -1, -1; h.Len() > 0; {
			id, key, e := h.Pop()
			if e != api.OK || key < k || key == k && id <= i {
				t.Fatalf("of %d: %d, %d, %d behind %d, %d", n, id, key, e, i, k)
			}
			i, k = id, key
		}
		wantEmpty(t, &h)
	}
}
