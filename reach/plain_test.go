package reach

import (
	"cmp"
	"maps"
	"math/bits"
	"slices"

	"sluice/api"
	"sluice/draws"
)

// plain is counts and the fronts that hang on them by the words of the chapter, worked out anew each time, with nothing of the program.
type plain struct {
	steps         []draws.Step
	places, arity int
	counts        map[api.Stamp]int64
	turns         []api.Change
}

func plainOf(g api.Graph) plain {
	steps, places := draws.Steps(g)
	return plain{steps: steps, places: places, arity: g.Arity, counts: map[api.Stamp]int64{}}
}

func (p plain) copied() plain {
	p.counts, p.turns = maps.Clone(p.counts), slices.Clone(p.turns)
	return p
}

// plainOn is what a path makes of a time; not ok: it is none.
func plainOn(p api.Path, t api.Time) (api.Time, bool) {
	a, over := bits.Add64(p.A, t.A, 0)
	b, above := bits.Add64(p.B, t.B, 0)
	c, beyond := bits.Add64(p.C, t.C, 0)
	return api.Time{A: a, B: b, C: c}, over+above+beyond == 0
}

func plainAhead(t, u api.Time) bool { return t.A <= u.A && t.B <= u.B && t.C <= u.C }

func plainOpen(l []api.Time, u api.Time) bool {
	return slices.ContainsFunc(l, func(t api.Time) bool { return plainAhead(t, u) })
}

func plainTelling(t, u api.Time) int {
	return cmp.Or(cmp.Compare(t.A, u.A), cmp.Compare(t.B, u.B), cmp.Compare(t.C, u.C))
}

func plainTold(a, b api.Change) int {
	return cmp.Or(cmp.Compare(a.S.At, b.S.At), plainTelling(a.S.T, b.S.T))
}

func plainFits(t api.Time, arity int) bool {
	return (arity > 1 || t.B == 0) && (arity > 2 || t.C == 0)
}

func inRange(n int64) bool { return -most <= n && n <= most }

// change is what it answers; the counts and what turned are then what they are behind it.
func (p *plain) change(l []api.Change) api.Errno {
	for _, c := range l {
		if c.S.At < 0 || c.S.At >= p.places {
			return api.ErrPlace
		}
		if !plainFits(c.S.T, p.arity) {
			return api.ErrArity
		}
	}
	will := maps.Clone(p.counts)
	ok := true
	for _, c := range l {
		will[c.S] += c.N
		ok = ok && inRange(c.N)
	}
	for _, n := range will {
		ok = ok && inRange(n)
	}
	if !ok {
		return api.ErrRange
	}
	was := p.fronts()
	p.counts = will
	p.turns = turned(was, p.fronts())
	return api.OK
}

// fronts is, by place, the least of all times that come there: those of the stamps with a count above 0, and on along all edges and connections till nothing more comes.
func (p plain) fronts() [][]api.Time {
	come := make([][]api.Time, p.places)
	for s, n := range p.counts {
		if n > 0 {
			come[s.At] = append(come[s.At], s.T)
		}
	}
	for again := true; again; {
		again = false
		for _, s := range p.steps {
			for _, t := range come[s.From] {
				if u, ok := plainOn(s.By, t); ok && !plainOpen(come[s.To], u) {
					come[s.To] = append(come[s.To], u)
					again = true
				}
			}
		}
	}
	for place, l := range come {
		come[place] = plainFront(l)
	}
	return come
}

// plainFront is those at or ahead of which no other one stands.
func plainFront(l []api.Time) []api.Time {
	l = slices.Clone(l)
	slices.SortFunc(l, plainTelling)
	l = slices.Compact(l)
	var front []api.Time
	for _, t := range l {
		if !slices.ContainsFunc(l, func(u api.Time) bool { return u != t && plainAhead(u, t) }) {
			front = append(front, t)
		}
	}
	return front
}

// turned is what leads from some fronts to others, by the words of P12.3.
func turned(was, is [][]api.Time) []api.Change {
	var l []api.Change
	for place := range was {
		for _, t := range was[place] {
			if !slices.Contains(is[place], t) {
				l = append(l, api.Change{S: api.Stamp{At: place, T: t}, N: -1})
			}
		}
		for _, t := range is[place] {
			if !slices.Contains(was[place], t) {
				l = append(l, api.Change{S: api.Stamp{At: place, T: t}, N: 1})
			}
		}
	}
	slices.SortFunc(l, plainTold)
	return l
}

// list is the counts that aren't 0.
func (p plain) list() []api.Change { return listed(p.counts) }

func listed(counts map[api.Stamp]int64) []api.Change {
	var l []api.Change
	for s, n := range counts {
		if n != 0 {
			l = append(l, api.Change{S: s, N: n})
		}
	}
	slices.SortFunc(l, plainTold)
	return l
}
