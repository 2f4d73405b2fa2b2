package graph

import (
	"slices"

	"milepost/api"
)

// rows are the edges, node by node.
type rows struct {
	edges []int
	first []int // where in edges each node's begin; at its end, where the last one's end
}

// start is the node from which an edge goes.
func start(e api.Edge) int { return e.From }

// end is the node to which an edge comes.
func end(e api.Edge) int { return e.To }

// rowsOf puts the numbers of edges in the rows of the nodes that node tells.
func rowsOf(nodes int, edges []api.Edge, node func(api.Edge) int) rows {
	first := make([]int, nodes+1)
	for _, e := range edges {
		first[node(e)+1]++
	}
	for n := range nodes {
		first[n+1] += first[n]
	}
	all, next := make([]int, len(edges)), slices.Clone(first)
	// Edge by edge from the first one on, so that each row rises.
	for i, e := range edges {
		n := node(e)
		all[next[n]] = i
		next[n]++
	}
	return rows{edges: all, first: first}
}

// row is the edges of a node, in new memory.
func (r rows) row(node int) []int {
	return slices.Clone(r.edges[r.first[node]:r.first[node+1]])
}
