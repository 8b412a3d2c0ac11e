package view

import (
	"cmp"
	"maps"
	"slices"

	"sluice/api"
	"sluice/batch"
	"sluice/graph"
	"sluice/paths"
)

// plain is a view by the words of the promises: counts alone, of which the fronts are worked out anew each time, by the least paths.
type plain struct {
	table  *paths.Table
	arity  int
	counts map[api.Stamp]int64
}

func plainOf(raw api.Graph, workers int) plain {
	g, _, _ := graph.New(raw)
	table, _ := paths.New(g)
	p := plain{table: table, arity: raw.Arity, counts: map[api.Stamp]int64{}}
	place := 0
	for _, n := range raw.Nodes {
		place += n.Ins
		for range n.Outs {
			if n.Kind == api.KInput || n.Start {
				p.counts[api.Stamp{At: place}] = int64(workers)
			}
			place++
		}
	}
	return p
}

func (p plain) copied() plain {
	p.counts = maps.Clone(p.counts)
	return p
}

func inRange(n int64) bool { return -most <= n && n <= most }

// add is the words of P12.2.
func (p *plain) add(l []api.Change) api.Errno {
	for _, c := range l {
		if c.S.At < 0 || c.S.At >= p.table.Places() {
			return api.ErrPlace
		}
		if p.arity < 2 && c.S.T.B != 0 || p.arity < 3 && c.S.T.C != 0 {
			return api.ErrArity
		}
	}
	will := maps.Clone(p.counts)
	ok := true
	for _, c := range l {
		will[c.S] += c.N
		ok = ok && inRange(c.N)
	}
	for _, n := range will {
		ok = ok && inRange(n)
	}
	if !ok {
		return api.ErrRange
	}
	p.counts = will
	return api.OK
}

// hear is what is wrong with the bytes, or else by what number the changes are refused.
func (p *plain) hear(b []byte) (error, api.Errno) {
	l, err := batch.Get(b)
	if err != nil {
		return err, api.OK
	}
	return nil, p.add(l)
}

func (p plain) list() []api.Change { return listed(p.counts) }

// front is that of a place, of the stamps with a count above 0.
func (p plain) front(place int) []api.Time {
	var l []api.Stamp
	for s, n := range p.counts {
		if n > 0 {
			l = append(l, s)
		}
	}
	return p.table.Front(place, l...)
}

func plainOpen(front []api.Time, u api.Time) bool {
	return slices.ContainsFunc(front, func(t api.Time) bool { return t.A <= u.A && t.B <= u.B && t.C <= u.C })
}

// listed is what isn't 0, by places, then in the order of telling: so a list in form.
func listed(counts map[api.Stamp]int64) []api.Change {
	var l []api.Change
	for s, n := range counts {
		if n != 0 {
			l = append(l, api.Change{S: s, N: n})
		}
	}
	slices.SortFunc(l, func(a, b api.Change) int {
		t, u := a.S.T, b.S.T
		return cmp.Or(cmp.Compare(a.S.At, b.S.At), cmp.Compare(t.A, u.A), cmp.Compare(t.B, u.B), cmp.Compare(t.C, u.C))
	})
	return l
}

// inForm is a list with the changes of each stamp added up, none beyond the range.
func inForm(l []api.Change) []api.Change {
	sums := map[api.Stamp]int64{}
	for _, c := range l {
		sums[c.S] = min(max(sums[c.S]+c.N, -most), most)
	}
	return listed(sums)
}
