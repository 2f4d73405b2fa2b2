// Package sample is graphs, arcs, bytes and lists for the tests of the other packages: only tests call it.
package sample

import (
	"bytes"

	"milepost/api"
	"milepost/check"
)

// Loops is a graph of so many nodes, of edges from the first one to itself, and of bans among these.
func Loops(nodes, edges, bans int) api.Graph {
	g := api.Graph{Nodes: make([]api.Node, nodes)}
	for range edges {
		g.Edges = append(g.Edges, api.Edge{W: 1})
	}
	for i := range bans {
		g.Bans = append(g.Bans, api.Ban{A: i / edges, B: i % edges})
	}
	return g
}

// Graph is a graph of so many nodes and edges, with a fourth of all turns banned: pick(n) tells a number from 0 to n - 1, so that the same one makes the same graph.
func Graph(pick func(n int) int, nodes, edges int) api.Graph {
	g := api.Graph{}
	for range nodes {
		g.Nodes = append(g.Nodes, api.Node{X: pick(api.MaxPlace + 1), Y: pick(api.MaxPlace + 1)})
	}
	for range edges {
		g.Edges = append(g.Edges, api.Edge{From: pick(nodes), To: pick(nodes), W: 1 + pick(api.MaxWeight)})
	}
	for a, from := range g.Edges {
		for b, to := range g.Edges {
			if from.To == to.From && pick(4) == 0 && len(g.Bans) < api.MaxBans {
				g.Bans = append(g.Bans, api.Ban{A: a, B: b})
			}
		}
	}
	return g
}

// Ties is a graph as Graph's, but of weights from 1 to 3, so that many walks weigh the same.
func Ties(pick func(n int) int, nodes, edges int) api.Graph {
	g := Graph(pick, nodes, edges)
	for i := range g.Edges {
		g.Edges[i].W = 1 + pick(3)
	}
	return g
}

// Mask is of so many edges whether each is closed: one in every of them, about.
func Mask(pick func(n int) int, edges, every int) []bool {
	mask := make([]bool, edges)
	for e := range mask {
		mask[e] = pick(every) == 0
	}
	return mask
}

// Arcs is so many arcs, without a Mid, between unlike ones of n numbers, of weights from 1 to most: there may be some from one number to the same other one.
func Arcs(pick func(n int) int, n, arcs, most int) []api.Arc {
	var all []api.Arc
	for range arcs {
		from := pick(n)
		to := (from + 1 + pick(n-1)) % n
		all = append(all, api.Arc{From: from, To: to, W: 1 + pick(most), Mid: -1})
	}
	return all
}

// Mids is the same arcs between n numbers, of which every other one, about, has a Mid of its own; all have none, if there is no third number.
func Mids(pick func(n int) int, n int, arcs []api.Arc) []api.Arc {
	var all []api.Arc
	for _, a := range arcs {
		if mid := pick(n); pick(2) == 0 && mid != a.From && mid != a.To {
			a.Mid = mid
		}
		all = append(all, a)
	}
	return all
}

// Summed is bytes with the sum of them behind them.
func Summed(b ...byte) []byte {
	sum := check.Sum(b)
	return append(bytes.Clone(b), byte(sum>>24), byte(sum>>16), byte(sum>>8), byte(sum))
}

// Overwrite changes all of a list, its spare room too.
func Overwrite[T any](list []T, by T) {
	list = list[:cap(list)]
	for i := range list {
		list[i] = by
	}
}

// OverwriteGraph changes all of a graph's lists, their spare room too.
func OverwriteGraph(g api.Graph) {
	Overwrite(g.Nodes, api.Node{X: 99, Y: 99})
	Overwrite(g.Edges, api.Edge{From: 99, To: 99, W: 99})
	Overwrite(g.Bans, api.Ban{A: 99, B: 99})
}
