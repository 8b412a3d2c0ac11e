package world

import (
	"fmt"
	"slices"
	"testing"

	"sluice/api"
	"sluice/cycle"
	"sluice/draws"
	"sluice/graph"
)

// heavy is more messages than a test lets come of what is sent: with so many no act of it is out of room.
const heavy = 1500

// meaning is what a graph without free nodes makes of records, without workers.
type meaning struct {
	plain
	waits  map[api.Stamp][]api.Caught // by in-place and time
	made   int
	caught map[int][]api.Caught
}

// meant is what the probes of a graph catch of what was sent, once all has gone its way; false: it would be too much. Time goes on in the order of telling, and within one time from place to place along empty steps: so all is there that a sum adds up.
func meant(raw api.Graph, sent map[int][]api.Caught) (map[int][]api.Caught, bool) {
	f := meaning{plain: plainOf(raw, 1), waits: map[api.Stamp][]api.Caught{}, caught: map[int][]api.Caught{}}
	g, _, _ := graph.New(raw)
	order, _ := cycle.Order(g)
	for node, l := range sent {
		f.leave(node, l)
	}
	for len(f.waits) > 0 && f.made <= heavy {
		now := f.firstTime()
		for _, place := range order {
			f.goThrough(api.Stamp{At: place, T: now})
		}
	}
	for _, l := range f.caught {
		slices.SortFunc(l, orderOfCaught)
	}
	return f.caught, f.made <= heavy
}

// firstTime is the time of a message at which no other one is told ahead.
func (f *meaning) firstTime() api.Time {
	var times []api.Time
	for s := range f.waits {
		times = append(times, s.T)
	}
	return slices.MinFunc(times, orderOf)
}

// goThrough lets a node take what waits at a stamp.
func (f *meaning) goThrough(s api.Stamp) {
	l := f.waits[s]
	delete(f.waits, s)
	node, _ := f.inPlace(s.At)
	switch f.kind(node) {
	case api.KProbe:
		f.caught[node] = append(f.caught[node], l...)
		return
	case api.KSum:
		f.leave(node, summedUp(l))
		return
	}
	for _, c := range l {
		if u, ok := becomes(f.raw.Nodes[node], c); ok {
			f.leave(node, []api.Caught{u})
		}
	}
}

// leave lets records leave the out-port of a node.
func (f *meaning) leave(node int, l []api.Caught) {
	for _, d := range f.raw.Edges {
		if d.From != node {
			continue
		}
		for _, c := range l {
			s := api.Stamp{At: f.ins[d.To] + d.In, T: c.T}
			f.waits[s] = append(f.waits[s], c)
			f.made++
		}
	}
}

// unfree is a graph in which much goes on, without free nodes.
func unfree(next func(below int) int) api.Graph {
	for {
		g := draws.Lively(next)
		if !slices.ContainsFunc(g.Nodes, func(n api.Node) bool { return n.Kind == api.KFree }) {
			return g
		}
	}
}

// isMeant holds that all that is done in some view is caught just as it is meant (P9); many is how much of it there is.
func (x *play) isMeant(t *testing.T, l map[int][]api.Caught) int {
	t.Helper()
	many := 0
	for _, node := range x.probes() {
		for self := range x.w.Workers() {
			front := x.w.Front(self, x.p.ins[node])
			want := doneAt(front, l[node])
			is(t, fmt.Sprint("caught by ", node, " and done for ", self, " at ", front), doneAt(front, x.w.Caught(node)), want...)
			many = max(many, len(want))
		}
	}
	return many
}

func TestWhatIsDoneIsRight(t *testing.T) { // P9
	early, all, many := 0, 0, 0
	for seed := range uint64(300) {
		next := draws.Numbers(seed)
		raw := unfree(next)
		x := playOf(t, raw, 1+next(5), next, map[string]int{})
		for range 60 + next(100) {
			x.goesOn(t)
			if next(4) > 0 {
				continue
			}
			if l, light := meant(raw, x.sent); light {
				early += x.isMeant(t, l)
			}
		}
		// It comes to an end: then all is done, so all is right.
		if l, light := meant(raw, x.sent); light {
			shuts(x.w)
			steps(t, x.w)
			all += x.isMeant(t, l)
			many++
			for _, node := range x.probes() {
				catches(t, x.w, node, l[node]...)
			}
		}
		if t.Failed() {
			t.Fatalf("seed %d: %v", seed, raw)
		}
	}
	if early < 1000 || all < 1000 || many < 200 {
		t.Errorf("drawn: %d were done early, %d at last, %d came to an end", early, all, many)
	}
}

func TestWhatIsDoneIsRightWhoeverWorks(t *testing.T) { // P9: the same is sent, by other workers, to other numbers of them, in another order
	for seed := range uint64(40) {
		next := draws.Numbers(seed)
		raw := unfree(next)
		var sent []Act
		for node, n := range raw.Nodes {
			for range 12 {
				if n.Kind == api.KInput {
					u := cut(at(uint64(next(4)), uint64(next(4)), uint64(next(4))), raw.Arity)
					sent = append(sent, send(0, node, u, rec(uint64(next(5)), uint64(next(5)))))
				}
			}
		}
		byNode := map[int][]api.Caught{}
		for _, a := range sent {
			byNode[a.N] = append(byNode[a.N], caught(a.T, a.R))
		}
		l, light := meant(raw, byNode)
		if !light {
			continue
		}
		for _, workers := range []int{1, 2, 5, api.MaxWorkers} {
			w := begin(t, raw, workers)
			for _, a := range draws.Mixed(sent, next) {
				a.W = next(workers)
				if x := a.of(w); x.e != api.OK {
					t.Fatalf("%v = %d", a, x.e)
				}
				if next(3) == 0 {
					step(next(workers)).of(w)
				}
			}
			shuts(w)
			steps(t, w)
			for node := range raw.Nodes {
				catches(t, w, node, l[node]...)
			}
		}
		if t.Failed() {
			t.Fatalf("seed %d: %v", seed, raw)
		}
	}
}

// cut is a time of which just so many numbers count.
func cut(t api.Time, arity int) api.Time {
	if arity < 3 {
		t.C = 0
	}
	if arity < 2 {
		t.B = 0
	}
	return t
}
