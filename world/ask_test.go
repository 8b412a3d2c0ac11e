package world

import (
	"sluice/api"
)

// uses tells what a kind uses beside W.
func uses(kind int) (n, from, t, r bool) {
	switch kind {
	case Send, Emit:
		return true, false, true, true
	case Advance, Lower:
		return true, false, true, false
	case Close, Take, Clone, Drop, Run:
		return true, false, false, false
	case Hear, Pass:
		return false, true, false, false
	}
	return false, false, false, false
}

// littered is an act in which what its kind doesn't use is written over.
func littered(a Act, with Act) Act {
	n, from, t, r := uses(a.Kind)
	if !n {
		a.N = with.N
	}
	if !from {
		a.From = with.From
	}
	if !t {
		a.T = with.T
	}
	if !r {
		a.R = with.R
	}
	return a
}

// ask is what is asked next. What the kind doesn't use is drawn, too.
func (x *play) ask() Act {
	a := x.wanted()
	if x.next(12) == 0 {
		a.W = x.one(len(x.p.hands))
	}
	if x.next(60) == 0 {
		a.Kind = []int{-1, 0, 13, 1 << 40, a.Kind}[x.next(5)]
	}
	return littered(a, Act{N: x.next(99) - 9, From: x.next(12) - 2, T: at(uint64(x.next(3)), uint64(x.next(3)), last), R: rec(last, last)})
}

// wanted is an act, of a kind for which there is something. Where there is nothing of that kind, it is mostly a step.
func (x *play) wanted() Act {
	self, seldom := x.next(len(x.p.hands)), x.next(10) == 0
	h := x.p.hands[self]
	node, input := x.of(api.KInput)
	cap, some := x.cap(h)
	switch kind := x.next(50); {
	case kind < 14:
		if link, is := x.link(func(from, to int) int { return len(x.way[[2]int{from, to}]) }); is || seldom {
			return hear(link[1], link[0])
		}
	case kind < 22:
		if link, is := x.link(x.w.Messages); is || seldom {
			return pass(link[1], link[0])
		}
	case kind < 29 && (input || seldom):
		return send(self, node, x.behind(h.epochs[node]), x.record())
	case kind < 32 && (input || seldom):
		return advance(self, node, x.behind(h.epochs[node]))
	case kind == 32 && (input || seldom):
		return shut(self, node)
	case kind < 37:
		if place, is := x.taking(h); is || seldom {
			return take(self, place)
		}
	case kind == 37 && (some || seldom):
		return clone(self, cap.ID)
	case kind < 40 && (some || seldom):
		return lower(self, cap.ID, x.behind(cap.S.T))
	case kind == 40 && (some || seldom):
		return drop(self, cap.ID)
	case kind < 44 && (some || seldom):
		return emit(self, cap.ID, x.behind(cap.S.T), x.record())
	case kind < 47:
		return run(self, x.one(len(x.p.raw.Nodes)))
	}
	return step(self)
}

// one is one of so many numbers from 0 on, or, now and then, one beside them.
func (x *play) one(many int) int { return x.next(many+1+x.next(2)) - x.next(2) }

// of is a node of a kind; false: there is none, or another one is drawn.
func (x *play) of(kind int) (int, bool) {
	var l []int
	for i, n := range x.p.raw.Nodes {
		if n.Kind == kind {
			l = append(l, i)
		}
	}
	if len(l) == 0 || x.next(20) == 0 {
		return x.one(len(x.p.raw.Nodes)), false
	}
	return l[x.next(len(l))], true
}

// cap is a capability; false: none is held, or any number is drawn.
func (x *play) cap(h hand) (api.Held, bool) {
	if len(h.held) == 0 || x.next(12) == 0 {
		return api.Held{ID: x.next(9) - 1}, false
	}
	return h.held[x.next(len(h.held))], true
}

// taking is a place of a free node at which something waits; false: there is none, or any place is drawn.
func (x *play) taking(h hand) (int, bool) {
	var l []int
	for _, m := range h.waiting {
		if node, _ := x.p.inPlace(m.At); x.p.kind(node) == api.KFree {
			l = append(l, m.At)
		}
	}
	if len(l) == 0 || x.next(12) == 0 {
		return x.one(x.p.table.Places()), false
	}
	return l[x.next(len(l))], true
}

// link is one on which there is something; false: there is none, or any two numbers are drawn.
func (x *play) link(many func(from, to int) int) ([2]int, bool) {
	var l [][2]int
	for from := range x.p.hands {
		for to := range x.p.hands {
			if many(from, to) > 0 {
				l = append(l, [2]int{from, to})
			}
		}
	}
	if len(l) == 0 || x.next(15) == 0 {
		return [2]int{x.one(len(x.p.hands)), x.one(len(x.p.hands))}, false
	}
	return l[x.next(len(l))], true
}

// time is one of few, so that they come again, and of which some are great; mostly it fits.
func (x *play) time() api.Time {
	arity := x.p.raw.Arity
	if x.next(30) == 0 {
		arity = api.MaxArity
	}
	var numbers [api.MaxArity]uint64
	for i := range arity {
		numbers[i] = []uint64{0, 0, 1, 1, 2, 3, 4, 6, 63, last - 1, last}[x.next(9+x.next(3))]
	}
	return at(numbers[:]...)
}

// behind is a time that is mostly at or behind another one.
func (x *play) behind(t api.Time) api.Time {
	u := x.time()
	if x.next(8) == 0 {
		return u
	}
	return api.Time{A: max(t.A, u.A), B: max(t.B, u.B), C: max(t.C, u.C)}
}

func (x *play) record() api.Record {
	return rec(uint64(x.next(6)), []uint64{0, 1, 2, 3, 1 << 63, last}[x.next(6)])
}
