package rank

import (
	"slices"

	"milepost/api"
	"milepost/net"
	"milepost/witness"
)

// Rest is what is left of a net from which numbers are taken out, one after the other, and what was found by searching it: that is asked again and again, and changes little from one to the next.
type Rest struct {
	net  *net.Net
	near []near
}

// near is what was found by searching from a number; zero, if it has not been searched.
type near struct {
	all  []witness.Stop         // the nearest numbers: one more than a search may settle, so that one of them can be left out
	less map[int][]witness.Stop // what a search settles that leaves a number out, of those over which one came to others
}

// Begin is a net of which nothing was taken out. The net is used, and changed by Take.
func Begin(t *net.Net) *Rest { return &Rest{net: t, near: make([]near, t.Len())} }

// Shortcuts is those of a number.
func (r *Rest) Shortcuts(v int) []api.Arc {
	var all []api.Arc
	out := r.net.Out(v)
	for _, a := range r.net.In(v) {
		far := sums(r.around(a.From, v))
		for _, b := range out {
			// The way back to a's From is none: a search finds itself, at 0.
			sum := a.W + b.W
			if other, is := far[b.To]; !is || other > sum {
				all = append(all, api.Arc{From: a.From, To: b.To, W: sum, Mid: v})
			}
		}
	}
	return all
}

// Worth is that of a number: as Shortcuts, but these are only counted.
func (r *Rest) Worth(v int) int {
	in, out := r.net.In(v), r.net.Out(v)
	on := make([]int, r.net.Len()) // of each number how heavy the arc to it is, 0 if there is none
	for _, b := range out {
		on[b.To] = b.W
	}
	// All pairs, less those for which a search finds another way: of the way back to where it begins, too.
	worth := len(in)*len(out) - len(in) - len(out)
	for _, a := range in {
		for _, s := range r.around(a.From, v) {
			if on[s.At] > 0 && s.Sum <= a.W+on[s.At] {
				worth--
			}
		}
	}
	return worth
}

// First is the least number of the least Worth that is not gone; -1, if there is none.
func (r *Rest) First(gone []bool) int {
	first, least := -1, 0
	for v := range r.near {
		if v < len(gone) && gone[v] {
			continue
		}
		if worth := r.Worth(v); first < 0 || worth < least {
			first, least = v, worth
		}
	}
	return first
}

// Take takes a number out: its Shortcuts, which it tells, are put in the place of its arcs.
func (r *Rest) Take(v int) []api.Arc {
	cuts := r.Shortcuts(v)
	for _, a := range cuts {
		r.net.Put(a)
	}
	r.net.Cut(v)
	r.forget(v)
	return cuts
}

// around is what a search settles from a number without v, and v itself, which is of use to nobody: it has no arc to itself.
func (r *Rest) around(from, v int) []witness.Stop {
	n := &r.near[from]
	if n.all == nil {
		n.all = witness.Around(r.net, from, witness.Nobody, Settle+1)
	}
	less, is := n.less[v]
	switch {
	case is:
		return less
	case n.over(v):
		return n.leave(v, witness.Around(r.net, from, v, Settle))
	case has(n.all, v):
		return n.all
	}
	return n.all[:min(len(n.all), Settle)]
}

// forget drops what was found by searches that came to a number, when it was taken out. All others would find the same again: a shortcut goes no other way, and is no shorter, than the two arcs over that number.
func (r *Rest) forget(v int) {
	for from := range r.near {
		if r.near[from].met(v) {
			r.near[from] = near{}
		}
	}
}

// over tells whether one came over v to another one. If not, all are as far without it.
func (n *near) over(v int) bool {
	return slices.ContainsFunc(n.all, func(s witness.Stop) bool { return s.Via == v })
}

// met tells whether one of the searches came to v.
func (n *near) met(v int) bool {
	if has(n.all, v) {
		return true
	}
	for _, less := range n.less {
		if has(less, v) {
			return true
		}
	}
	return false
}

// leave keeps what a search found that left v out.
func (n *near) leave(v int, less []witness.Stop) []witness.Stop {
	if n.less == nil {
		n.less = map[int][]witness.Stop{}
	}
	n.less[v] = less
	return less
}

// has tells whether v is among those that were settled.
func has(stops []witness.Stop, v int) bool {
	return slices.ContainsFunc(stops, func(s witness.Stop) bool { return s.At == v })
}

// sums is of each number that was settled at what.
func sums(stops []witness.Stop) map[int]int {
	far := map[int]int{}
	for _, s := range stops {
		far[s.At] = s.Sum
	}
	return far
}
