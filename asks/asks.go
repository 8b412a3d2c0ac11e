// Package asks: acts drawn for a world, by what that world tells: for tests alone.
package asks

import (
	"math"

	"sluice/api"
	"sluice/world"
)

// asker draws what is asked next of a world.
type asker struct {
	next func(below int) int
	raw  api.Graph
	w    *world.World
}

// Goes lets a world go on by so many acts, and answers them. Some of them are refused.
func Goes(next func(below int) int, w *world.World, many int) []world.Act {
	x := asker{next, w.Graph().Raw(), w}
	var l []world.Act
	for range many {
		a := x.ask()
		l = append(l, a)
		w.Do(a)
	}
	return l
}

// one is one of so many numbers from 0 on, or, now and then, one beside them.
func (x asker) one(many int) int { return x.next(many + 1 - min(1, x.next(9))) }

// time is mostly behind another one, and fits the arity.
func (x asker) time(behind api.Time) api.Time {
	numbers := [api.MaxArity]uint64{behind.A, behind.B, behind.C}
	for i := range x.raw.Arity {
		u := []uint64{0, 1, 2, 3, 6, math.MaxUint64}[x.next(5+x.next(2))]
		if numbers[i] += u; numbers[i] < u || x.next(9) == 0 {
			numbers[i] = u
		}
	}
	return api.Time{A: numbers[0], B: numbers[1], C: numbers[2]}
}

func (x asker) record() api.Record {
	return api.Record{Key: uint64(x.next(9)), Val: uint64(x.next(5))}
}

// ask is an act of a kind for which there is something; where there is nothing, it is mostly a step.
func (x asker) ask() world.Act {
	self := x.one(x.w.Workers())
	switch kind := x.next(50); {
	case kind < 20:
		from := x.link(self)
		if x.w.Messages(from, self) > 0 && kind < 8 || kind == 0 {
			return world.Act{Kind: world.Pass, W: self, From: from}
		}
		if x.w.Batches(from, self) > 0 || kind == 1 {
			return world.Act{Kind: world.Hear, W: self, From: from}
		}
	case kind < 32:
		if node, is := x.node(api.KInput); is || kind == 20 {
			return x.ofInput(self, node)
		}
	case kind < 38:
		if place, is := x.waits(self); is || kind == 37 {
			return world.Act{Kind: world.Take, W: self, N: place}
		}
	case kind < 44:
		if l := x.w.Held(self); len(l) > 0 && kind > 38 {
			return x.ofCap(self, l[x.next(len(l))])
		}
		if kind == 38 {
			return x.ofCap(self, api.Held{ID: x.next(9)})
		}
	case kind < 46:
		return world.Act{Kind: world.Run, W: self, N: x.one(len(x.raw.Nodes))}
	}
	return world.Act{Kind: world.Step, W: self}
}

func (x asker) ofInput(self, node int) world.Act {
	epoch, _ := x.w.Epoch(self, node)
	a := world.Act{Kind: world.Send, W: self, N: node, T: x.time(epoch), R: x.record()}
	switch x.next(20) {
	case 0:
		return world.Act{Kind: world.Close, W: self, N: node}
	case 1, 2, 3:
		return world.Act{Kind: world.Advance, W: self, N: node, T: a.T}
	}
	return a
}

func (x asker) ofCap(self int, h api.Held) world.Act {
	a := world.Act{W: self, N: h.ID}
	switch x.next(6) {
	case 0:
		a.Kind = world.Clone
	case 1:
		a.Kind = world.Drop
	case 2:
		a.Kind, a.T = world.Lower, x.time(h.S.T)
	default:
		a.Kind, a.T, a.R = world.Emit, x.time(h.S.T), x.record()
	}
	return a
}

// link is a worker from whom something is on the way, or any.
func (x asker) link(to int) int {
	var l []int
	for from := range x.w.Workers() {
		if x.w.Batches(from, to) > 0 || x.w.Messages(from, to) > 0 {
			l = append(l, from)
		}
	}
	if len(l) == 0 || x.next(20) == 0 {
		return x.one(x.w.Workers())
	}
	return l[x.next(len(l))]
}

// node is one of a kind; false: it is any.
func (x asker) node(kind int) (int, bool) {
	var l []int
	for node, n := range x.raw.Nodes {
		if n.Kind == kind {
			l = append(l, node)
		}
	}
	if len(l) == 0 || x.next(20) == 0 {
		return x.one(len(x.raw.Nodes)), false
	}
	return l[x.next(len(l))], true
}

// waits is a place of a free node at which something waits; false: it is any.
func (x asker) waits(self int) (int, bool) {
	var l []int
	g := x.w.Graph()
	for place := range g.Places() {
		node, _, _ := g.Of(place)
		if x.raw.Nodes[node].Kind == api.KFree && x.w.Waiting(self, place) > 0 {
			l = append(l, place)
		}
	}
	if len(l) == 0 {
		return x.one(g.Places()), false
	}
	return l[x.next(len(l))], true
}
