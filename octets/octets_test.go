package octets

import (
	"bytes"
	"fmt"
	"math"
	"testing"

	"milepost/api"
)

// wrongSizes are sizes that no number has.
var wrongSizes = []int{math.MinInt, -8, -1, 0, 8, 9, 64, math.MaxInt}

// wantBytes asks that a Writer tells these.
func wantBytes(t *testing.T, what string, w *Writer, want ...byte) {
	t.Helper()
	got, e := w.Bytes()
	if e != api.OK || !bytes.Equal(got, want) {
		t.Errorf("%s: Bytes() = %v, %d; want %v, %d", what, got, e, want, api.OK)
	}
}

// wantSpoilt asks that a Writer is spoilt, and stays so.
func wantSpoilt(t *testing.T, what string, w *Writer) {
	t.Helper()
	for range 2 {
		if got, e := w.Bytes(); e != api.ErrArg || len(got) != 0 {
			t.Errorf("%s: Bytes() = %v, %d; want none, %d", what, got, e, api.ErrArg)
		}
		w.Nums(1, 5).Raw(6).Nums(2)
	}
}

// wantSpoiltReader asks that a Reader is spoilt, and stays so.
func wantSpoiltReader(t *testing.T, what string, r *Reader) {
	t.Helper()
	for range 2 {
		left, num, raw, none, done := r.Left(), r.Num(1), r.Raw(1), r.Raw(0), r.Done()
		if left != 0 || num != 0 || len(raw) != 0 || len(none) != 0 || done != api.ErrBad {
			t.Errorf("%s: Left %d, Num %d, Raw %v and %v, Done %d; want 0, 0, none, none, %d", what, left, num, raw, none, done, api.ErrBad)
		}
	}
}

func ExampleWriter_Nums() {
	b, _ := new(Writer).Nums(2, 1, 258).Bytes()
	fmt.Println(b)
	// Output: [0 1 1 2]
}

// P1.1

func TestZeroWriterIsEmpty(t *testing.T) {
	var w Writer
	wantBytes(t, "zero", &w)
	wantBytes(t, "no numbers, no bytes", w.Nums(3).Raw())
}

func TestNumsHighByteFirst(t *testing.T) {
	wantBytes(t, "size 2", new(Writer).Nums(2, 1, 258), 0, 1, 1, 2)
	wantBytes(t, "size 3", new(Writer).Nums(3, 0x010203, 5), 1, 2, 3, 0, 0, 5)
	wantBytes(t, "size 7", new(Writer).Nums(7, 0x01020304050607), 1, 2, 3, 4, 5, 6, 7)
}

func TestNumsLeastAndGreatestOfEachSize(t *testing.T) {
	for size := 1; size <= 7; size++ {
		most := 1<<(8*size) - 1
		want := append(make([]byte, size), bytes.Repeat([]byte{255}, size)...)
		wantBytes(t, fmt.Sprint("size ", size), new(Writer).Nums(size, 0, most), want...)
		for _, n := range []int{most + 1, -1, math.MinInt, math.MaxInt} {
			wantSpoilt(t, fmt.Sprint("size ", size, ", number ", n), new(Writer).Nums(size, n))
		}
	}
}

func TestWrongSizeSpoilsWriter(t *testing.T) {
	for _, size := range wrongSizes {
		wantSpoilt(t, fmt.Sprint("size ", size), new(Writer).Nums(size, 1))
		wantSpoilt(t, fmt.Sprint("size ", size, ", no number"), new(Writer).Raw(1).Nums(size))
	}
}

func TestOneWrongNumberSpoilsWriter(t *testing.T) {
	for at := range 3 {
		n := []int{1, 2, 3}
		n[at] = 256
		wantSpoilt(t, fmt.Sprint("number ", at), new(Writer).Raw(7).Nums(1, n...))
	}
}

func TestAllInOrder(t *testing.T) {
	w := new(Writer).Raw(9, 8).Nums(1, 7).Raw().Raw(255, 0).Nums(2, 6)
	wantBytes(t, "mixed", w, 9, 8, 7, 255, 0, 0, 6)
	wantBytes(t, "asked again", w, 9, 8, 7, 255, 0, 0, 6)
	wantBytes(t, "written on", w.Raw(5), 9, 8, 7, 255, 0, 0, 6, 5)
}

func TestCallsTellTheWriterItself(t *testing.T) {
	w := new(Writer)
	if w.Nums(1, 1) != w || w.Nums(1) != w || w.Raw(1) != w || w.Raw() != w {
		t.Error("a Writer does not tell itself")
	}
	if w.Nums(1, 256) != w || w.Nums(1, 1) != w || w.Raw(1) != w {
		t.Error("a spoilt Writer does not tell itself")
	}
	if w.Nums(0) != w {
		t.Error("a spoilt Writer does not tell itself of a wrong size")
	}
}

func TestNilWriter(t *testing.T) {
	var w *Writer
	if w.Nums(1, 1) != nil || w.Nums(0) != nil || w.Nums(1, -1) != nil || w.Raw(1) != nil || w.Raw() != nil {
		t.Error("a nil Writer tells one that is not nil")
	}
	wantSpoilt(t, "nil", w)
}

// P1.2

func TestReaderInOrder(t *testing.T) {
	r := Read([]byte{1, 2, 3, 4, 5, 6, 7, 8, 9})
	if got := r.Left(); got != 9 {
		t.Errorf("Left() = %d at the start", got)
	}
	if got := r.Num(2); got != 258 || r.Left() != 7 {
		t.Errorf("Num(2) = %d, %d left", got, r.Left())
	}
	if got := r.Raw(2); !bytes.Equal(got, []byte{3, 4}) || r.Left() != 5 {
		t.Errorf("Raw(2) = %v, %d left", got, r.Left())
	}
	if got := r.Raw(0); len(got) != 0 || r.Left() != 5 {
		t.Errorf("Raw(0) = %v, %d left", got, r.Left())
	}
	if got := r.Num(3); got != 0x050607 || r.Left() != 2 {
		t.Errorf("Num(3) = %d, %d left", got, r.Left())
	}
	if got := r.Raw(2); !bytes.Equal(got, []byte{8, 9}) || r.Left() != 0 {
		t.Errorf("Raw(2) = %v, %d left", got, r.Left())
	}
	if got := r.Raw(0); len(got) != 0 || r.Done() != api.OK {
		t.Errorf("Raw(0) at the end = %v, Done %d", got, r.Done())
	}
}

func TestNumOfEachSize(t *testing.T) {
	b := []byte{0xff, 0xfe, 0xfd, 0xfc, 0xfb, 0xfa, 0xf9}
	want := []int{0xff, 0xfffe, 0xfffefd, 0xfffefdfc, 0xfffefdfcfb, 0xfffefdfcfbfa, 0xfffefdfcfbfaf9}
	for i, n := range want {
		r := Read(b[:i+1])
		if got := r.Num(i + 1); got != n || r.Done() != api.OK {
			t.Errorf("Num(%d) = %d, Done %d; want %d", i+1, got, r.Done(), n)
		}
	}
}

func TestDoneOnlyWhenNothingIsLeft(t *testing.T) {
	for _, b := range [][]byte{nil, {}} {
		if got := Read(b).Done(); got != api.OK {
			t.Errorf("Done() of nothing = %d", got)
		}
	}
	r := Read([]byte{1, 2})
	for _, want := range []api.Errno{api.ErrBad, api.ErrBad, api.OK} {
		if got := r.Done(); got != want {
			t.Errorf("Done() with %d left = %d, want %d", r.Left(), got, want)
		}
		if want == api.ErrBad {
			r.Num(1)
		}
	}
}

func TestWrongSizeSpoilsReader(t *testing.T) {
	for _, size := range wrongSizes {
		r := Read(make([]byte, 100))
		if got := r.Num(size); got != 0 {
			t.Errorf("Num(%d) = %d", size, got)
		}
		wantSpoiltReader(t, fmt.Sprint("Num ", size), r)
	}
}

func TestWrongCountSpoilsReader(t *testing.T) {
	for _, n := range []int{math.MinInt, -1, 4, 5, math.MaxInt} {
		r := Read([]byte{1, 2, 3})
		if got := r.Raw(n); len(got) != 0 {
			t.Errorf("Raw(%d) = %v", n, got)
		}
		wantSpoiltReader(t, fmt.Sprint("Raw ", n), r)
	}
}

func TestTooFewBytesSpoilReader(t *testing.T) {
	for size := 1; size <= 7; size++ {
		r := Read(bytes.Repeat([]byte{255}, size-1))
		if got := r.Num(size); got != 0 {
			t.Errorf("Num(%d) of a byte too few = %d", size, got)
		}
		wantSpoiltReader(t, fmt.Sprint("Num ", size), r)
	}
	r := Read([]byte{1})
	r.Num(1)
	if got := r.Raw(1); len(got) != 0 {
		t.Errorf("Raw(1) at the end = %v", got)
	}
	wantSpoiltReader(t, "Raw 1 at the end", r)
}

func TestNilReader(t *testing.T) {
	var r *Reader
	wantSpoiltReader(t, "nil", r)
	if r.Num(0) != 0 || len(r.Raw(-1)) != 0 {
		t.Error("a nil Reader tells something at wrong sizes")
	}
}

// P1.3

func TestWrittenIsReadAsItWas(t *testing.T) {
	for size := 1; size <= 7; size++ {
		top := 1 << (8*size - 1)
		nums := []int{0, 1, 127, 128, 255, top - 1, top, 2*top - 1}
		raw := []byte{0, byte(size), 255}
		b, e := new(Writer).Nums(size, nums...).Raw(raw...).Bytes()
		if e != api.OK || len(b) != size*len(nums)+len(raw) {
			t.Fatalf("size %d: %d bytes, %d", size, len(b), e)
		}
		r := Read(b)
		for _, want := range nums {
			if got := r.Num(size); got != want {
				t.Errorf("size %d: Num = %d, want %d", size, got, want)
			}
		}
		if got := r.Raw(len(raw)); !bytes.Equal(got, raw) || r.Done() != api.OK {
			t.Errorf("size %d: Raw = %v, want %v; Done %d", size, got, raw, r.Done())
		}
	}
}

func TestArgumentsAreNotChanged(t *testing.T) {
	nums := [4]int{1, 2, 77, 78}
	raw := [4]byte{3, 4, 79, 80}
	w := new(Writer).Raw(raw[:2]...).Nums(1, nums[:2]...).Raw(9, 9)
	w.Bytes()
	r := Read(raw[:2])
	r.Num(1)
	r.Raw(1)
	if nums != [4]int{1, 2, 77, 78} || raw != [4]byte{3, 4, 79, 80} {
		t.Errorf("an argument was changed: %v %v", nums, raw)
	}
}

func TestArgumentsAreNotKept(t *testing.T) {
	nums, raw := []int{1}, []byte{2}
	w := new(Writer).Raw(raw...).Nums(1, nums...)
	r := Read(raw)
	nums[0], raw[0] = 77, 78
	wantBytes(t, "written", w, 2, 1)
	if got := r.Num(1); got != 2 {
		t.Errorf("Num(1) = %d after the argument was changed", got)
	}
}

// overwrite changes all of an answer, its spare room too.
func overwrite(b []byte) {
	b = b[:cap(b)]
	for i := range b {
		b[i] = 77
	}
}

func TestAnswersOfAWriterAreNewMemory(t *testing.T) {
	w := new(Writer).Raw(1, 2, 3)
	first, _ := w.Bytes()
	second, _ := w.Bytes()
	overwrite(first)
	w.Raw(4)
	if !bytes.Equal(second, []byte{1, 2, 3}) {
		t.Errorf("an answer was changed: %v", second)
	}
	wantBytes(t, "Writer", w, 1, 2, 3, 4)
}

func TestAnswersOfAReaderAreNewMemory(t *testing.T) {
	r := Read([]byte{1, 2, 3, 4})
	first := r.Raw(2)
	second := r.Raw(1)
	overwrite(first)
	if !bytes.Equal(second, []byte{3}) {
		t.Errorf("an answer was changed: %v", second)
	}
	overwrite(second)
	if got := r.Num(1); got != 4 {
		t.Errorf("Num(1) = %d, want 4", got)
	}
}

func TestObjectsHaveNothingInCommon(t *testing.T) {
	b := []byte{1, 2}
	v, w := new(Writer), new(Writer)
	v.Raw(b...)
	w.Nums(1, 256)
	wantBytes(t, "beside a spoilt one", v, 1, 2)
	q, r := Read(b), Read(b)
	q.Raw(3)
	if r.Left() != 2 || r.Num(2) != 258 || r.Done() != api.OK {
		t.Error("a Reader hangs on another one")
	}
}
