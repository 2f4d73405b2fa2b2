package ideal

import (
	"slices"

	"milepost/api"
	"milepost/guide"
	"milepost/least"
	"milepost/turns"
	"milepost/walk"
)

// one is who is known: a session as chapter 28 has it, with chapter 12's ways alone, and all that was told there. Neither a way nor what was told is ever written into, so both may have the same edges.
type one struct {
	turns *turns.Turns
	place int
	node  int
	has   bool // there is a way
	way   []int
	done  bool // nothing is told any more: it has arrived, or there is no session
	told  []api.Msg
}

// open is one who wants to go from an edge to a node; there is no session, if one is none.
func open(t *turns.Turns, at, node int, closed []bool) *one {
	_, isEdge := t.Edge(at)
	_, isNode := t.Node(node)
	if !isEdge || !isNode {
		return &one{done: true}
	}
	o := &one{turns: t, place: at, node: node}
	o.tell(api.Msg{Kind: api.Opened})
	o.ask(closed)
	return o
}

// report takes where it is now, and tells what comes next.
func (o *one) report(pos int, closed []bool) {
	if o.done {
		return
	}
	_, isEdge := o.turns.Edge(pos)
	switch {
	case !isEdge:
		o.tell(api.Msg{Kind: api.Wrong, Pos: pos})
	case o.has && pos == o.place:
		o.hint()
	case len(o.way) > 0 && pos == o.way[0]:
		o.place, o.way = pos, o.way[1:]
		o.hint()
	default:
		o.place = pos
		o.ask(closed)
	}
}

// changed takes which edges were closed and which opened, and tells a new way, if that can be of use.
func (o *one) changed(shut, open []int, closed []bool) {
	switch {
	case o.done:
	case o.has && o.goesOver(shut):
		o.ask(closed)
	case !o.has && len(open) > 0 && o.find(closed):
		// That there is still none is not told once more.
		o.tellWay()
	}
}

// ask finds the way that is the best now, and tells it.
func (o *one) ask(closed []bool) {
	o.find(closed)
	o.tellWay()
}

// find takes the way that is the best now, and tells whether there is one.
func (o *one) find(closed []bool) bool {
	o.way, o.has = least.Way(o.turns, o.place, o.node, closed)
	return o.has
}

// tellWay tells the way, and what comes next on it; or that there is none.
func (o *one) tellWay() {
	if !o.has {
		o.tell(api.Msg{Kind: api.NoRoute})
		return
	}
	weight, _ := walk.Weight(o.turns, o.way...)
	o.tell(api.Msg{Kind: api.Route, Edges: o.way, Weight: weight})
	o.hint()
}

// hint tells what comes next on the way: at its end it has arrived.
func (o *one) hint() {
	if end, _ := walk.End(o.turns, o.place); end == o.node {
		o.done = true
		o.tell(api.Msg{Kind: api.Arrived})
		return
	}
	hint, _ := guide.Hint(o.turns, o.place, o.way...)
	o.tell(api.Msg{Kind: api.Next, Hint: hint})
}

// goesOver tells whether one of some edges is on the way.
func (o *one) goesOver(edges []int) bool {
	return slices.ContainsFunc(edges, func(e int) bool { return slices.Contains(o.way, e) })
}

// tell tells a message.
func (o *one) tell(m api.Msg) { o.told = append(o.told, m) }
