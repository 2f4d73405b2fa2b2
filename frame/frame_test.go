package frame

import (
	"bytes"
	"fmt"
	"math"
	"math/rand"
	"testing"

	"milepost/api"
	"milepost/sample"
)

// framed is a frame as the chapter writes it, of any version and length.
func framed(version, kind byte, body []byte) []byte {
	return sample.Summed(append([]byte{77, version, kind, byte(len(body) >> 8), byte(len(body))}, body...)...)
}

// noise is n bytes, the same in each run.
func noise(n int) []byte {
	b := make([]byte, n)
	rand.New(rand.NewSource(int64(n))).Read(b)
	return b
}

// mustWrap is a frame that may be.
func mustWrap(t *testing.T, kind int, body []byte) []byte {
	t.Helper()
	b, e := Wrap(kind, body)
	if e != api.OK {
		t.Fatalf("Wrap(%d, %d bytes): %d", kind, len(body), e)
	}
	return b
}

// wantUnwrapped asks that b is a frame of kind and body.
func wantUnwrapped(t *testing.T, what string, b []byte, kind int, body []byte) {
	t.Helper()
	k, got, e := Unwrap(b)
	if k != kind || !bytes.Equal(got, body) || e != api.OK {
		t.Errorf("%s: Unwrap = %d, %d bytes, %d; want %d, %d bytes, %d", what, k, len(got), e, kind, len(body), api.OK)
	}
}

// wantRefused asks that b is no frame.
func wantRefused(t *testing.T, what string, b []byte, want api.Errno) {
	t.Helper()
	if kind, body, e := Unwrap(b); kind != 0 || len(body) != 0 || e != want {
		t.Errorf("%s: Unwrap = %d, %v, %d; want 0, none, %d", what, kind, body, e, want)
	}
}

func ExampleWrap() {
	b, e := Wrap(1, nil)
	fmt.Println(len(b), b[:5], e)
	// Output: 9 [77 3 1 0 0] 0
}

// P3.1

func TestVersion(t *testing.T) {
	if Version != 3 {
		t.Errorf("Version is %d", Version)
	}
}

func TestWrapIsAsWritten(t *testing.T) {
	for _, kind := range []int{0, 1, 77, 254, 255} {
		for _, n := range []int{0, 1, 2, 255, 256, 257, 1999, 2000} {
			body := noise(n)
			if got, want := mustWrap(t, kind, body), framed(3, byte(kind), body); !bytes.Equal(got, want) {
				t.Errorf("kind %d, %d bytes: %v, want %v", kind, n, got, want)
			}
		}
	}
	if got, want := mustWrap(t, 9, []byte{}), framed(3, 9, nil); !bytes.Equal(got, want) {
		t.Errorf("an empty body: %v, want %v", got, want)
	}
}

func TestWrapRefuses(t *testing.T) {
	for _, kind := range []int{math.MinInt, -256, -1, 256, 257, 1 << 32, math.MaxInt} {
		if b, e := Wrap(kind, []byte{1}); len(b) != 0 || e != api.ErrArg {
			t.Errorf("kind %d: %v, %d", kind, b, e)
		}
	}
	for _, n := range []int{2001, 65535, 65536, 65537} {
		if b, e := Wrap(1, make([]byte, n)); len(b) != 0 || e != api.ErrArg {
			t.Errorf("%d bytes: %d bytes, %d", n, len(b), e)
		}
	}
}

func TestUnwrapTakesWhatMayBe(t *testing.T) {
	for _, kind := range []byte{0, 1, 77, 255} {
		for _, n := range []int{0, 1, 255, 256, 1999, 2000} {
			body := noise(n)
			wantUnwrapped(t, fmt.Sprint(kind, n), framed(3, kind, body), int(kind), body)
		}
	}
}

func TestUnwrapRefusesFewerThanNineBytes(t *testing.T) {
	whole := framed(3, 0, nil)
	wantRefused(t, "nothing", nil, api.ErrBad)
	wantRefused(t, "empty", []byte{}, api.ErrBad)
	for n := range whole {
		wantRefused(t, fmt.Sprint("cut ", n), whole[:n], api.ErrBad)
		wantRefused(t, fmt.Sprint("zeros ", n), make([]byte, n), api.ErrBad)
	}
	for n := range 5 {
		wantRefused(t, fmt.Sprint("a sum behind ", n), sample.Summed(whole[:n]...), api.ErrBad)
	}
}

func TestUnwrapRefusesAnotherStart(t *testing.T) {
	for first := range 256 {
		b := sample.Summed(byte(first), 3, 1, 0, 1, 9)
		if first == 77 {
			wantUnwrapped(t, "77", b, 1, []byte{9})
			continue
		}
		wantRefused(t, fmt.Sprint("first ", first), b, api.ErrBad)
		wantRefused(t, fmt.Sprint("first ", first, ", version 4"), sample.Summed(byte(first), 4, 1, 0, 1, 9), api.ErrBad)
	}
}

func TestUnwrapRefusesAnotherLength(t *testing.T) {
	whole := framed(3, 5, []byte{1, 2, 3})
	for n := range whole {
		wantRefused(t, fmt.Sprint("cut ", n), whole[:n], api.ErrBad)
	}
	wantRefused(t, "one more", append(bytes.Clone(whole), 0), api.ErrBad)
	wantRefused(t, "one more, summed", sample.Summed(77, 3, 5, 0, 3, 1, 2, 3, 4), api.ErrBad)
	wantRefused(t, "one fewer, summed", sample.Summed(77, 3, 5, 0, 3, 1, 2), api.ErrBad)
	wantRefused(t, "the low byte first", sample.Summed(77, 3, 5, 3, 0, 1, 2, 3), api.ErrBad)
	wantRefused(t, "the length of all", sample.Summed(77, 3, 5, 0, 12, 1, 2, 3), api.ErrBad)
	wantRefused(t, "65535, of none", sample.Summed(77, 3, 5, 255, 255), api.ErrBad)
	wantRefused(t, "none, of one", sample.Summed(77, 3, 5, 0, 0, 1), api.ErrBad)
	// Another length is told ahead of another version.
	wantRefused(t, "version 4", sample.Summed(77, 4, 5, 0, 3, 1, 2), api.ErrBad)
}

func TestUnwrapRefusesAnotherSum(t *testing.T) {
	for _, version := range []byte{2, 3, 4} {
		b := framed(version, 5, []byte{1, 2, 3})
		for i := len(b) - 4; i < len(b); i++ {
			for bit := range 8 {
				c := bytes.Clone(b)
				c[i] ^= 1 << bit
				wantRefused(t, fmt.Sprint("version ", version, ", byte ", i, ", bit ", bit), c, api.ErrBad)
			}
		}
	}
	zero := framed(3, 5, []byte{1, 2, 3})
	copy(zero[len(zero)-4:], make([]byte, 4))
	wantRefused(t, "a sum of 0", zero, api.ErrBad)
}

func TestUnwrapRefusesAnotherVersion(t *testing.T) {
	for version := range 256 {
		want := api.ErrVer
		if version == 3 {
			continue
		}
		wantRefused(t, fmt.Sprint("version ", version), framed(byte(version), 5, nil), want)
		wantRefused(t, fmt.Sprint("version ", version, ", 2000 bytes"), framed(byte(version), 5, noise(2000)), want)
		wantRefused(t, fmt.Sprint("version ", version, ", 2001 bytes"), framed(byte(version), 5, noise(2001)), want)
	}
}

func TestUnwrapRefusesALongBody(t *testing.T) {
	for _, n := range []int{2001, 2002, 32768, 65535} {
		wantRefused(t, fmt.Sprint(n), framed(3, 5, noise(n)), api.ErrBad)
	}
}

// P3.2

func TestWhatWasWrappedIsUnwrapped(t *testing.T) {
	for kind := range 256 {
		body := noise(kind)
		wantUnwrapped(t, fmt.Sprint(kind), mustWrap(t, kind, body), kind, body)
	}
	for n := 0; n <= api.MaxBody; n += 20 {
		wantUnwrapped(t, fmt.Sprint(n), mustWrap(t, 7, noise(n)), 7, noise(n))
	}
}

// wantTurnedRefused asks that b is no frame with these bits turned; those of its length are let be.
func wantTurnedRefused(t *testing.T, b []byte, bits ...int) {
	t.Helper()
	c := bytes.Clone(b)
	for _, i := range bits {
		if i/8 == 3 || i/8 == 4 {
			return
		}
		c[i/8] ^= 1 << (i % 8)
	}
	wantRefused(t, fmt.Sprint(len(b), " bytes, bits ", bits), c, api.ErrBad)
}

func TestTurnedBitsAreRefused(t *testing.T) {
	small := mustWrap(t, 5, []byte{7, 8})
	for i := range 8 * len(small) {
		wantTurnedRefused(t, small, i)
		for j := range i {
			wantTurnedRefused(t, small, i, j)
			for k := range j {
				wantTurnedRefused(t, small, i, j, k)
			}
		}
	}
	large := mustWrap(t, 5, noise(491))
	for i := range 8 * len(large) {
		wantTurnedRefused(t, large, i)
	}
	r := rand.New(rand.NewSource(3))
	for range 3000 {
		bits := r.Perm(8 * len(large))
		wantTurnedRefused(t, large, bits[:2]...)
		wantTurnedRefused(t, large, bits[:3]...)
	}
}

func TestNoiseIsRefused(t *testing.T) {
	for n := range 1000 {
		b := noise(n)
		wantRefused(t, fmt.Sprint("noise ", n), b, api.ErrBad)
		if n > 5 {
			b[0], b[1], b[3], b[4] = 77, 3, byte((n-9)>>8), byte(n-9)
			wantRefused(t, fmt.Sprint("noise in a frame of ", n), b, api.ErrBad)
		}
	}
}

func TestArgumentsAreNeitherChangedNorKept(t *testing.T) {
	room := bytes.Repeat([]byte{5}, 40)
	b := mustWrap(t, 1, room[:10])
	if !bytes.Equal(room, bytes.Repeat([]byte{5}, 40)) {
		t.Errorf("the body, or its room, was changed: %v", room)
	}
	sample.Overwrite(room, 99)
	wantUnwrapped(t, "kept", b, 1, bytes.Repeat([]byte{5}, 10))

	room = append(bytes.Clone(b), 1, 2, 3, 4)
	before := bytes.Clone(room)
	_, body, _ := Unwrap(room[:len(b)])
	if !bytes.Equal(room, before) {
		t.Errorf("the frame, or its room, was changed: %v", room)
	}
	sample.Overwrite(room, 99)
	if !bytes.Equal(body, bytes.Repeat([]byte{5}, 10)) {
		t.Errorf("the body hangs on the frame: %v", body)
	}
}

func TestAnswersAreNewMemory(t *testing.T) {
	given := []byte{1, 2, 3}
	one, other := mustWrap(t, 1, given), mustWrap(t, 1, given)
	_, body, _ := Unwrap(other)
	_, second, _ := Unwrap(other)
	sample.Overwrite(one, 99)
	sample.Overwrite(body, 99)
	if !bytes.Equal(given, []byte{1, 2, 3}) || !bytes.Equal(second, given) {
		t.Errorf("an argument %v or another answer %v was changed", given, second)
	}
	wantUnwrapped(t, "another answer", other, 1, given)
}
