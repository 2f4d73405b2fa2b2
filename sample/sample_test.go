package sample_test

import (
	"bytes"
	"math/rand"
	"testing"

	"milepost/api"
	"milepost/graph"
	"milepost/net"
	"milepost/sample"
)

func TestGraphsMayBe(t *testing.T) {
	r := rand.New(rand.NewSource(1))
	for _, p := range []api.Graph{sample.Loops(1, 0, 0), sample.Loops(256, 512, 1024), sample.Graph(r.Intn, 1, 0), sample.Graph(r.Intn, 5, 20), sample.Graph(r.Intn, 1, 512), sample.Ties(r.Intn, 5, 20)} {
		if _, e := graph.New(p); e != api.OK {
			t.Errorf("no graph of %d nodes, %d edges, %d bans", len(p.Nodes), len(p.Edges), len(p.Bans))
		}
	}
}

func TestArcsMayBe(t *testing.T) {
	r := rand.New(rand.NewSource(2))
	for n := 2; n < 9; n++ {
		arcs := sample.Arcs(r.Intn, n, 100, 3)
		if _, e := net.New(n, arcs...); e != api.OK || len(arcs) != 100 {
			t.Errorf("no net of %d: %v", n, arcs)
		}
	}
}

func TestMidsMayBe(t *testing.T) {
	r := rand.New(rand.NewSource(3))
	for n := 2; n < 9; n++ {
		arcs := sample.Mids(r.Intn, n, sample.Arcs(r.Intn, n, 100, 3))
		mids := 0
		for _, a := range arcs {
			if a.Mid >= 0 {
				mids++
			}
		}
		if _, e := net.New(n, arcs...); e != api.OK || len(arcs) != 100 || (mids > 9) != (n > 2) {
			t.Errorf("no net of %d, with %d Mids: %v", n, mids, arcs)
		}
	}
}

func TestSummed(t *testing.T) {
	b := []byte("123456789")
	if got := sample.Summed(b...); !bytes.Equal(got, append(b, 0xE3, 0x06, 0x92, 0x83)) {
		t.Errorf("%v", got)
	}
}

func TestOverwriteReachesSpareRoom(t *testing.T) {
	list := []int{1, 2, 3}
	sample.Overwrite(list[:1], 9)
	if list[0] != 9 || list[2] != 9 {
		t.Errorf("%v", list)
	}
}
