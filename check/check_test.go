package check

import (
	"bytes"
	"fmt"
	"hash/crc32"
	"math/rand"
	"testing"
)

// rising is n bytes, each one more than the one ahead of it.
func rising(n int) []byte {
	b := make([]byte, n)
	for i := range b {
		b[i] = byte(i)
	}
	return b
}

// noise is n bytes, the same in each run.
func noise(n int) []byte {
	b := make([]byte, n)
	rand.New(rand.NewSource(int64(n))).Read(b)
	return b
}

// turn turns bits of b, each of its bytes having eight.
func turn(b []byte, bits ...int) {
	for _, i := range bits {
		b[i/8] ^= 1 << (i % 8)
	}
}

func ExampleSum() {
	fmt.Printf("%X\n", Sum([]byte("123456789")))
	// Output: E3069283
}

// P2.1

func TestSumOfNothing(t *testing.T) {
	for what, parts := range map[string][][]byte{
		"no part":     nil,
		"a nil part":  {nil},
		"empty parts": {{}, nil, {}},
	} {
		if got := Sum(parts...); got != 0 {
			t.Errorf("%s: %08X, want 0", what, got)
		}
	}
}

func TestKnownSums(t *testing.T) {
	falling := rising(32)
	for i := range falling {
		falling[i] = byte(31 - i)
	}
	for _, c := range []struct {
		what string
		b    []byte
		want uint32
	}{
		{"digits", []byte("123456789"), 0xE3069283},
		{"a", []byte("a"), 0xC1D04330},
		{"one zero", make([]byte, 1), 0x527D5351},
		{"zeros", make([]byte, 32), 0x8A9136AA},
		{"ones", bytes.Repeat([]byte{255}, 32), 0x62A8AB43},
		{"rising", rising(32), 0x46DD794E},
		{"falling", falling, 0x113FDB5C},
	} {
		if got := Sum(c.b); got != c.want {
			t.Errorf("%s: %08X, want %08X", c.what, got, c.want)
		}
	}
}

func TestSumIsCastagnoli(t *testing.T) {
	table := crc32.MakeTable(crc32.Castagnoli)
	for b := range 256 {
		if got, want := Sum([]byte{byte(b)}), crc32.Checksum([]byte{byte(b)}, table); got != want {
			t.Errorf("byte %d: %08X, want %08X", b, got, want)
		}
	}
	for n := range 600 {
		b := noise(n)
		if got, want := Sum(b), crc32.Checksum(b, table); got != want {
			t.Errorf("%d bytes: %08X, want %08X", n, got, want)
		}
	}
	b := noise(1 << 20)
	if got, want := Sum(b), crc32.Checksum(b, table); got != want {
		t.Errorf("%d bytes: %08X, want %08X", len(b), got, want)
	}
}

func TestPartsCountInTheirOrder(t *testing.T) {
	a, b := []byte("12"), []byte("3")
	if Sum(a, b) == Sum(b, a) {
		t.Error("the order of parts changes nothing")
	}
	if Sum(a, a) == Sum(a) {
		t.Error("a part that comes twice counts once")
	}
}

func TestPartsAreNotChanged(t *testing.T) {
	b := rising(40)
	was := Sum(b[:10], b[10:20])
	if !bytes.Equal(b, rising(40)) {
		t.Errorf("parts were changed: %v", b)
	}
	if got := Sum(b[:10], b[10:20]); got != was {
		t.Errorf("asked again: %08X, first %08X", got, was)
	}
}

// P2.2

func TestCutsChangeNothing(t *testing.T) {
	b := noise(60)
	want := Sum(b)
	for i := range len(b) + 1 {
		for j := i; j <= len(b); j++ {
			if got := Sum(b[:i], b[i:j], b[j:]); got != want {
				t.Errorf("cut at %d and %d: %08X, want %08X", i, j, got, want)
			}
		}
	}
	var each [][]byte
	for i := range b {
		each = append(each, b[i:i+1], nil)
	}
	if got := Sum(each...); got != want {
		t.Errorf("byte by byte: %08X, want %08X", got, want)
	}
}

// changes tells, of each bit of a row, what of the sum changes when it is turned.
func changes(b []byte) []uint32 {
	was, each := Sum(b), make([]uint32, 8*len(b))
	for i := range each {
		turn(b, i)
		each[i] = Sum(b) ^ was
		turn(b, i)
	}
	return each
}

// Turned bits change the sum by all that each one changes, so three of them leave it as it was just if two change what the third one does.
func TestAnyTurnedBitsChangeTheSum(t *testing.T) {
	each := changes(noise(500))
	has := map[uint32]bool{0: true}
	for i, c := range each {
		if has[c] {
			t.Fatalf("bit %d changes nothing, or the same as another one", i)
		}
		has[c] = true
	}
	for i, c := range each {
		for j, d := range each[:i] {
			if has[c^d] {
				t.Fatalf("bits %d and %d change nothing, or the same as a third one", i, j)
			}
		}
	}
}

func TestTurnedBitsChangeTheSum(t *testing.T) {
	random := rand.New(rand.NewSource(1))
	for _, n := range []int{1, 2, 7, 64, 499, 500} {
		b := noise(n)
		was, each := Sum(b), changes(b)
		for range 2000 {
			bits := random.Perm(8 * n)[:1+random.Intn(3)]
			want := was
			for _, i := range bits {
				want ^= each[i]
			}
			turn(b, bits...)
			if got := Sum(b); got == was || got != want {
				t.Fatalf("%d bytes, bits %v: %08X, was %08X, want %08X", n, bits, got, was, want)
			}
			turn(b, bits...)
		}
	}
}
