package world

import (
	"cmp"
	"slices"

	"sluice/api"
	"sluice/graph"
)

// Workers is how many workers there are.
func (w *World) Workers() int {
	if w == nil {
		return 0
	}
	return len(w.workers)
}

// Graph is the graph.
func (w *World) Graph() *graph.Graph {
	if w == nil {
		return nil
	}
	return w.g
}

// Tokens is the global counts: what stands at all workers, and the messages on links; by places, then in the order of telling.
func (w *World) Tokens() []api.Change {
	if w == nil {
		return nil
	}
	counts := map[api.Stamp]int64{}
	for _, one := range w.workers {
		for _, c := range one.Tokens() {
			counts[c.S] += c.N
		}
	}
	for _, m := range w.underWay() {
		counts[api.Stamp{At: m.At, T: m.T}]++
	}
	var l []api.Change
	for s, n := range counts {
		l = append(l, api.Change{S: s, N: n})
	}
	slices.SortFunc(l, func(c, d api.Change) int { return orderOfStamps(c.S, d.S) })
	return l
}

// Counts is the counts of a worker's view.
func (w *World) Counts(worker int) []api.Change { return w.worker(worker).Counts() }

// Front is the front of a place in a worker's view.
func (w *World) Front(worker, place int) []api.Time { return w.worker(worker).Front(place) }

// Open tells whether a time is open there.
func (w *World) Open(worker, place int, t api.Time) bool { return w.worker(worker).Open(place, t) }

// Batches is how many batches are on a link.
func (w *World) Batches(from, to int) int {
	if w == nil {
		return 0
	}
	return w.batches.Len(from, to)
}

// Messages is how many messages are on a link.
func (w *World) Messages(from, to int) int {
	if w == nil {
		return 0
	}
	return w.messages.Len(from, to)
}

// Outstanding is how many messages are on links, and wait.
func (w *World) Outstanding() int {
	if w == nil {
		return 0
	}
	many := w.messages.Total()
	for _, one := range w.workers {
		for place := range w.g.Places() {
			many += one.Waiting(place)
		}
	}
	return many
}

// Waiting is how many messages wait at a place of a worker.
func (w *World) Waiting(worker, place int) int { return w.worker(worker).Waiting(place) }

// Held is a worker's capabilities by number.
func (w *World) Held(worker int) []api.Held { return w.worker(worker).Held() }

// Epoch is an input's epoch at a worker; false: it is closed, or none.
func (w *World) Epoch(worker, node int) (api.Time, bool) { return w.worker(worker).Epoch(node) }

// Caught is what all workers' probes of a node have caught, by times, then keys, then values.
func (w *World) Caught(node int) []api.Caught {
	if w == nil {
		return nil
	}
	var l []api.Caught
	for _, one := range w.workers {
		l = append(l, one.Caught(node)...)
	}
	slices.SortFunc(l, orderOfCatches)
	return l
}

// underWay is all messages on links.
func (w *World) underWay() []api.Message {
	var l []api.Message
	for _, link := range w.messages.Busy() {
		for i := range w.messages.Len(link[0], link[1]) {
			m, _ := w.messages.Look(link[0], link[1], i)
			l = append(l, m)
		}
	}
	return l
}

func orderOfStamps(s, t api.Stamp) int {
	return cmp.Or(cmp.Compare(s.At, t.At), orderOfTimes(s.T, t.T))
}

func orderOfCatches(c, d api.Caught) int {
	return cmp.Or(orderOfTimes(c.T, d.T), cmp.Compare(c.R.Key, d.R.Key), cmp.Compare(c.R.Val, d.R.Val))
}

// orderOfTimes is the order of telling.
func orderOfTimes(t, u api.Time) int {
	return cmp.Or(cmp.Compare(t.A, u.A), cmp.Compare(t.B, u.B), cmp.Compare(t.C, u.C))
}
