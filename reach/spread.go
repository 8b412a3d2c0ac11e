package reach

import (
	"cmp"

	"sluice/api"
	"sluice/heap"
	"sluice/path"
	"sluice/stamp"
	"sluice/tally"
)

// add adds a list to the counts: how the fronts of the places' own stamps differ by that, each change waiting to be gone on from. A stamp behind another one of its place is never heard of farther on: it reaches nothing that the other one doesn't.
func (r *Reach) add(l []api.Change) *heap.Heap[api.Change] {
	parts := make([][]api.Delta, r.places())
	for _, c := range l {
		parts[c.S.At] = append(parts[c.S.At], api.Delta{T: c.S.T, N: c.N})
	}
	waiting := heap.New(r.ways.first)
	for place := range r.places() {
		if len(parts[place]) == 0 {
			continue
		}
		// The whole list is in range, so no part of it is refused.
		turned, _ := r.own[place].Apply(parts[place]...)
		for _, d := range turned {
			waiting.Push(changeAt(place, d))
		}
	}
	return waiting
}

// spread goes on from what waits, along the ways, as far as fronts turn by it: how they did. A front turns only at and behind the time that changes there, and a step leads on to what comes later in the worklist: so a stamp that comes first has all of its changes beside it, and none is met again, round a loop neither.
func (r *Reach) spread(waiting *heap.Heap[api.Change]) []api.Change {
	turned := tally.New(told)
	for next, some := taken(waiting); some; next, some = taken(waiting) {
		at := next.S.At
		// A time comes to a place at most once by each step, so these counts stay small.
		turns, _ := r.come[at].Apply(api.Delta{T: next.S.T, N: next.N})
		for _, d := range turns {
			turned.Add(api.Stamp{At: at, T: d.T}, d.N)
			for _, s := range r.ways.steps[at] {
				if t, ok := path.On(s.by, d.T); ok {
					waiting.Push(changeAt(s.to, api.Delta{T: t, N: d.N}))
				}
			}
		}
	}
	return listOf(turned)
}

// taken is the first change that waits, with all others of the same stamp added to it.
func taken(waiting *heap.Heap[api.Change]) (api.Change, bool) {
	sum, some := waiting.Pop()
	for next, more := waiting.Peek(); more && next.S == sum.S; next, more = waiting.Peek() {
		sum.N += next.N
		waiting.Pop()
	}
	return sum, some
}

func changeAt(place int, d api.Delta) api.Change {
	return api.Change{S: api.Stamp{At: place, T: d.T}, N: d.N}
}

// listOf is what isn't 0, as it is told.
func listOf(counts *tally.Tally[api.Stamp]) []api.Change {
	var l []api.Change
	for _, s := range counts.Keys() {
		l = append(l, api.Change{S: s, N: counts.Get(s)})
	}
	return l
}

// told is the order by places, then of telling.
func told(a, b api.Stamp) int {
	return cmp.Or(cmp.Compare(a.At, b.At), stamp.Compare(a.T, b.T))
}
