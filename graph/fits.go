package graph

import (
	"cmp"

	"milepost/api"
)

// fits tells whether a graph may be.
func fits(g api.Graph) bool {
	return sizesFit(g) && nodesFit(g) && edgesFit(g) && bansFit(g)
}

// sizesFit tells whether there are neither too few nor too many.
func sizesFit(g api.Graph) bool {
	return within(len(g.Nodes), 1, api.MaxNodes) &&
		len(g.Edges) <= api.MaxEdges &&
		len(g.Bans) <= api.MaxBans
}

// nodesFit tells whether each node is a place.
func nodesFit(g api.Graph) bool {
	for _, n := range g.Nodes {
		if !within(n.X, 0, api.MaxPlace) || !within(n.Y, 0, api.MaxPlace) {
			return false
		}
	}
	return true
}

// edgesFit tells whether each edge goes from a node to a node, with a weight that may be.
func edgesFit(g api.Graph) bool {
	last := len(g.Nodes) - 1
	for _, e := range g.Edges {
		if !within(e.From, 0, last) || !within(e.To, 0, last) || !within(e.W, 1, api.MaxWeight) {
			return false
		}
	}
	return true
}

// bansFit tells whether each ban is of a turn that would be there, and they rise, each once.
func bansFit(g api.Graph) bool {
	last := len(g.Edges) - 1
	for i, b := range g.Bans {
		if !within(b.A, 0, last) || !within(b.B, 0, last) || g.Edges[b.A].To != g.Edges[b.B].From {
			return false
		}
		if i > 0 && compareBans(g.Bans[i-1], b) >= 0 {
			return false
		}
	}
	return true
}

// within tells whether n is from least to most.
func within(n, least, most int) bool { return least <= n && n <= most }

// compareBans orders by A, then by B.
func compareBans(x, y api.Ban) int {
	return cmp.Or(cmp.Compare(x.A, y.A), cmp.Compare(x.B, y.B))
}
