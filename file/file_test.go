package file

import (
	"bytes"
	"fmt"
	"math"
	"math/rand"
	"reflect"
	"testing"

	"milepost/api"
	"milepost/sample"
)

// two is two nodes, two edges, a loop, and two bans.
func two() api.Graph {
	return api.Graph{
		Nodes: []api.Node{{X: 1, Y: 258}, {X: 4095, Y: 0}},
		Edges: []api.Edge{{From: 0, To: 1, W: 65535}, {From: 1, To: 0, W: 1}, {From: 1, To: 1, W: 256}},
		Bans:  []api.Ban{{A: 0, B: 1}, {A: 2, B: 2}},
	}
}

// twoBytes is what two is written as, but for its sum.
func twoBytes() []byte {
	return []byte{
		'M', 'I', 'L', 'E', 0, 2, 0, 3, 0, 2,
		0, 1, 1, 2, 15, 255, 0, 0,
		0, 0, 0, 1, 255, 255, 0, 1, 0, 0, 0, 1, 0, 1, 0, 1, 1, 0,
		0, 0, 0, 1, 0, 2, 0, 2,
	}
}

// same tells whether two graphs are the same, nil and empty lists being alike.
func same(a, b api.Graph) bool { return fmt.Sprint(a) == fmt.Sprint(b) }

// mustEncode is what a graph that may be is written as.
func mustEncode(t *testing.T, g api.Graph) []byte {
	t.Helper()
	b, e := Encode(g)
	if e != api.OK {
		t.Fatalf("Encode(%v): %d", g, e)
	}
	return b
}

// wantDecoded asks that b is read as g.
func wantDecoded(t *testing.T, what string, b []byte, g api.Graph) {
	t.Helper()
	if got, e := Decode(b); !same(got, g) || e != api.OK {
		t.Errorf("%s: Decode = %v, %d; want %v, %d", what, got, e, g, api.OK)
	}
}

// wantRefused asks that b is no graph's bytes.
func wantRefused(t *testing.T, what string, b []byte) {
	t.Helper()
	if g, e := Decode(b); !reflect.DeepEqual(g, api.Graph{}) || e != api.ErrBad {
		t.Errorf("%s: Decode = %v, %d; want nothing, %d", what, g, e, api.ErrBad)
	}
}

func ExampleEncode() {
	b, e := Encode(api.Graph{Nodes: []api.Node{{X: 3, Y: 4}}})
	fmt.Println(len(b), b[:14], e)
	// Output: 18 [77 73 76 69 0 1 0 0 0 0 0 3 0 4] 0
}

// P6.1

func TestEncodeIsAsWritten(t *testing.T) {
	if got, want := mustEncode(t, two()), sample.Summed(twoBytes()...); !bytes.Equal(got, want) {
		t.Errorf("%v, want %v", got, want)
	}
	b := mustEncode(t, sample.Loops(256, 512, 1024))
	if len(b) != 14+256*4+512*6+1024*4 || !bytes.Equal(b[4:10], []byte{1, 0, 2, 0, 4, 0}) {
		t.Errorf("%d bytes, counts %v", len(b), b[4:10])
	}
	if !bytes.Equal(b, sample.Summed(b[:len(b)-4]...)) {
		t.Error("another sum")
	}
}

func TestEncodeRefusesWhatMayNotBe(t *testing.T) {
	turned := two()
	turned.Bans[0], turned.Bans[1] = turned.Bans[1], turned.Bans[0]
	for what, g := range map[string]api.Graph{
		"nothing":          {},
		"257 nodes":        sample.Loops(257, 0, 0),
		"513 edges":        sample.Loops(1, 513, 0),
		"1025 bans":        sample.Loops(1, 512, 1025),
		"65537 nodes":      sample.Loops(65537, 0, 0),
		"X below 0":        {Nodes: []api.Node{{X: -1}}},
		"Y above 4095":     {Nodes: []api.Node{{Y: 4096}}},
		"Y far above":      {Nodes: []api.Node{{Y: math.MaxInt}}},
		"no weight":        {Nodes: make([]api.Node, 1), Edges: []api.Edge{{W: 0}}},
		"too much weight":  {Nodes: make([]api.Node, 1), Edges: []api.Edge{{W: 65536}}},
		"from no node":     {Nodes: make([]api.Node, 1), Edges: []api.Edge{{From: 1, W: 1}}},
		"to no node":       {Nodes: make([]api.Node, 1), Edges: []api.Edge{{To: -1, W: 1}}},
		"a ban of no edge": {Nodes: make([]api.Node, 1), Bans: make([]api.Ban, 1)},
		"bans that fall":   turned,
	} {
		if b, e := Encode(g); len(b) != 0 || e != api.ErrArg {
			t.Errorf("%s: Encode = %d bytes, %d", what, len(b), e)
		}
	}
}

func TestDecodeReadsWhatIsWritten(t *testing.T) {
	wantDecoded(t, "two", sample.Summed(twoBytes()...), two())
	wantDecoded(t, "one", sample.Summed('M', 'I', 'L', 'E', 0, 1, 0, 0, 0, 0, 0, 3, 0, 4), api.Graph{Nodes: []api.Node{{X: 3, Y: 4}}})
}

func TestDecodeRefusesCutBytes(t *testing.T) {
	whole := twoBytes()
	wantRefused(t, "nothing", nil)
	wantRefused(t, "empty", []byte{})
	for n := range whole {
		wantRefused(t, fmt.Sprint("cut ", n), sample.Summed(whole...)[:n])
		wantRefused(t, fmt.Sprint("cut and summed ", n), sample.Summed(whole[:n]...))
	}
	for n := len(whole); n < len(whole)+4; n++ {
		wantRefused(t, fmt.Sprint("cut ", n), sample.Summed(whole...)[:n])
	}
}

func TestDecodeRefusesMoreBytes(t *testing.T) {
	whole := twoBytes()
	wantRefused(t, "one more", append(sample.Summed(whole...), 0))
	wantRefused(t, "one more, summed", sample.Summed(append(whole, 0)...))
	wantRefused(t, "four more, summed", sample.Summed(append(whole, 0, 0, 0, 0)...))
	wantRefused(t, "twice", append(sample.Summed(whole...), sample.Summed(whole...)...))
}

func TestDecodeRefusesTurnedBits(t *testing.T) {
	b := sample.Summed(twoBytes()...)
	for i := range 8 * len(b) {
		c := bytes.Clone(b)
		c[i/8] ^= 1 << (i % 8)
		wantRefused(t, fmt.Sprint("bit ", i), c)
	}
}

// odd is two's bytes with one that is another, rightly summed.
func odd(at int, v byte) []byte {
	b := twoBytes()
	b[at] = v
	return sample.Summed(b...)
}

func TestDecodeRefusesWhatNewRefuses(t *testing.T) {
	for what, b := range map[string][]byte{
		"another mark":        odd(0, 'm'),
		"the mark's end":      odd(3, 0),
		"no nodes":            sample.Summed('M', 'I', 'L', 'E', 0, 0, 0, 0, 0, 0),
		"fewer nodes":         odd(5, 1),
		"more nodes":          odd(5, 3),
		"far more nodes":      odd(4, 255),
		"fewer edges":         odd(7, 2),
		"more edges":          odd(7, 4),
		"fewer bans":          odd(9, 1),
		"more bans":           odd(9, 3),
		"far more bans":       odd(8, 255),
		"X above 4095":        odd(14, 16),
		"Y above 4095":        odd(16, 255),
		"from no node":        odd(19, 2),
		"from far":            odd(18, 1),
		"to no node":          odd(21, 2),
		"no weight":           odd(29, 0),
		"a ban of no edge":    odd(37, 3),
		"a ban into no edge":  odd(39, 3),
		"a ban of no turn":    odd(39, 0),
		"a ban twice":         sample.Summed(append(twoBytes()[:40], 0, 0, 0, 1)...),
		"bans that fall":      sample.Summed(append(twoBytes()[:36], 0, 2, 0, 2, 0, 0, 0, 1)...),
		"a node too many":     tooMany(257, 0, 0),
		"an edge too many":    tooMany(1, 513, 0),
		"a ban too many":      tooMany(1, 512, 1025),
		"65535 nodes, bytes":  tooMany(65535, 0, 0),
		"65535 of everything": tooMany(65535, 65535, 65535),
	} {
		wantRefused(t, what, b)
	}
}

// tooMany is bytes of more rows than may be, else as Encode writes them.
func tooMany(nodes, edges, bans int) []byte {
	b := []byte{'M', 'I', 'L', 'E'}
	for _, n := range []int{nodes, edges, bans} {
		b = append(b, byte(n>>8), byte(n))
	}
	b = append(b, make([]byte, 4*nodes)...)
	for range edges {
		b = append(b, 0, 0, 0, 0, 0, 1)
	}
	for i := range bans {
		b = append(b, byte(i/512>>8), byte(i/512), byte(i%512>>8), byte(i%512))
	}
	return sample.Summed(b...)
}

func TestDecodeTakesOtherGraphsThatMayBe(t *testing.T) {
	far := two()
	far.Nodes[1].X = 255
	wantDecoded(t, "another place", odd(14, 0), far)
	heavy := two()
	heavy.Edges[1].W = 65281
	wantDecoded(t, "another weight", odd(28, 255), heavy)
	wantDecoded(t, "the most", tooMany(256, 512, 1024), sample.Loops(256, 512, 1024))
}

// P6.2

func TestWhatWasEncodedIsDecoded(t *testing.T) {
	wantDecoded(t, "two", mustEncode(t, two()), two())
	for _, g := range []api.Graph{sample.Loops(1, 0, 0), sample.Loops(256, 512, 1024), sample.Loops(256, 0, 0), sample.Loops(1, 512, 1024)} {
		wantDecoded(t, "sized", mustEncode(t, g), g)
	}
	r := rand.New(rand.NewSource(6))
	for range 200 {
		g := sample.Graph(r.Intn, 1+r.Intn(20), r.Intn(40))
		wantDecoded(t, "any", mustEncode(t, g), g)
	}
}

func TestWhatIsDecodedIsEncodedAsItWas(t *testing.T) {
	r := rand.New(rand.NewSource(60))
	for range 3000 {
		b := twoBytes()
		for range 1 + r.Intn(3) {
			b[4+r.Intn(len(b)-4)] = byte(r.Intn(4))
		}
		b = sample.Summed(b...)
		g, e := Decode(b)
		if e == api.OK && !bytes.Equal(mustEncode(t, g), b) {
			t.Fatalf("%v is read as %v, which is written in another way", b, g)
		}
	}
}

func TestArgumentsAreNeitherChangedNorKept(t *testing.T) {
	spare := two()
	part := api.Graph{Nodes: spare.Nodes[:1], Edges: spare.Edges[:0], Bans: spare.Bans[:0]}
	mustEncode(t, part)
	b := mustEncode(t, spare)
	if !reflect.DeepEqual(spare, two()) {
		t.Errorf("the graph was changed: %v", spare)
	}
	sample.OverwriteGraph(spare)
	wantDecoded(t, "kept", b, two())

	room := append(bytes.Clone(b), 1, 2, 3, 4)
	before := bytes.Clone(room)
	g, _ := Decode(room[:len(b)])
	if !bytes.Equal(room, before) {
		t.Errorf("the bytes, or their room, were changed: %v", room)
	}
	sample.Overwrite(room, 99)
	if !same(g, two()) {
		t.Errorf("the graph hangs on the bytes: %v", g)
	}
}

func TestAnswersAreNewMemory(t *testing.T) {
	given := two()
	one, other := mustEncode(t, given), mustEncode(t, given)
	g, _ := Decode(other)
	second, _ := Decode(other)
	sample.Overwrite(one, 99)
	sample.OverwriteGraph(g)
	if !reflect.DeepEqual(given, two()) || !same(second, two()) {
		t.Errorf("an argument %v or another answer %v was changed", given, second)
	}
	wantDecoded(t, "another answer", other, two())
}
