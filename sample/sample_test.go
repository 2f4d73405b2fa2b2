package sample_test

import (
	"bytes"
	"math/rand"
	"testing"

	"milepost/api"
	"milepost/graph"
	"milepost/sample"
)

func TestGraphsMayBe(t *testing.T) {
	r := rand.New(rand.NewSource(1))
	for _, p := range []api.Graph{sample.Loops(1, 0, 0), sample.Loops(256, 512, 1024), sample.Graph(r.Intn, 1, 0), sample.Graph(r.Intn, 5, 20), sample.Graph(r.Intn, 1, 512)} {
		if _, e := graph.New(p); e != api.OK {
			t.Errorf("no graph of %d nodes, %d edges, %d bans", len(p.Nodes), len(p.Edges), len(p.Bans))
		}
	}
}

func TestSummed(t *testing.T) {
	b := []byte("123456789")
	if got := sample.Summed(b...); !bytes.Equal(got, append(b, 0xE3, 0x06, 0x92, 0x83)) {
		t.Errorf("%v", got)
	}
}

func TestOverwriteReachesSpareRoom(t *testing.T) {
	list := []int{1, 2, 3}
	sample.Overwrite(list[:1], 9)
	if list[0] != 9 || list[2] != 9 {
		t.Errorf("%v", list)
	}
}
