package worker

import (
	"fmt"
	"math"
	"reflect"
	"slices"
	"testing"

	"sluice/api"
	"sluice/draws"
	"sluice/graph"
)

// stands is a graph with a cycle that doesn't advance.
func stands(l ...api.Node) api.Graph {
	g := nodes(append(l, join(1), mapper())...)
	many := len(g.Nodes)
	g.Edges = []api.Edge{edge(many-2, many-1), edge(many-1, many-2)}
	return g
}

// doubling is a row of free nodes, the one number i with two connections that add 2^i, at one number and at another: so 2^n least paths from the first place to the last.
func doubling(many int) api.Graph {
	g := api.Graph{Arity: 2}
	for i := range many {
		g.Nodes = append(g.Nodes, free(false, 1, 1, api.Conn{By: by(1 << i)}, api.Conn{By: by(0, 1<<i)}))
		if i > 0 {
			g.Edges = append(g.Edges, edge(i-1, i))
		}
	}
	return g
}

func TestNewRefuses(t *testing.T) { // P25.1, P4
	badMap, badFilter := mapper(api.Op{Kind: 1}, api.Op{Kind: 3}), filter(api.Op{Kind: 1})
	badWide := doubling(7)
	badWide.Nodes = append(badWide.Nodes, badFilter)
	for _, c := range []struct {
		what          string
		g             *graph.Graph
		workers, self int
		e             api.Errno
	}{
		{"no graph", nil, 1, 0, api.ErrArg},
		{"no graph, no workers", nil, 0, -1, api.ErrArg},
		{"a map", made(t, nodes(badMap)), 1, 0, api.ErrCode},
		{"a filter", made(t, nodes(input(), mapper(), badFilter)), 8, 7, api.ErrCode},
		{"a map, and no workers", made(t, nodes(badMap)), 0, 0, api.ErrCode},
		{"a map, and no such worker", made(t, nodes(badMap)), 2, 2, api.ErrCode},
		{"a map, and a cycle", made(t, stands(badMap)), 1, 0, api.ErrCode},
		{"a filter, and too many paths", made(t, badWide), 9, 0, api.ErrCode},
		{"no workers", made(t, summed()), 0, 0, api.ErrWorker},
		{"below", made(t, summed()), -1, 0, api.ErrWorker},
		{"above", made(t, summed()), 9, 0, api.ErrWorker},
		{"far above", made(t, summed()), math.MaxInt, 0, api.ErrWorker},
		{"far below", made(t, summed()), math.MinInt, math.MinInt, api.ErrWorker},
		{"itself below", made(t, summed()), 1, -1, api.ErrWorker},
		{"itself far below", made(t, summed()), 8, math.MinInt, api.ErrWorker},
		{"itself above", made(t, summed()), 1, 1, api.ErrWorker},
		{"itself above, of all", made(t, summed()), 8, 8, api.ErrWorker},
		{"itself far above", made(t, summed()), 8, math.MaxInt, api.ErrWorker},
		{"a cycle, and no workers", made(t, stands()), 0, 0, api.ErrWorker},
		{"a cycle, and no such worker", made(t, stands()), 3, 3, api.ErrWorker},
		{"too many paths, and no such worker", made(t, doubling(7)), 3, -1, api.ErrWorker},
		{"a cycle", made(t, stands()), 1, 0, api.ErrCycle},
		{"too many paths", made(t, doubling(7)), 8, 7, api.ErrWide},
	} {
		if w, e := New(c.g, c.workers, c.self); w != nil || e != c.e {
			t.Errorf("%s: New = %v, %d, want %d", c.what, w, e, c.e)
		}
	}
	begin(t, doubling(6), 8, 0)
}

func TestNewOfAllWorkers(t *testing.T) { // P25.1
	for workers := 1; workers <= api.MaxWorkers; workers++ {
		for self := range workers {
			w := begin(t, nodes(input(), trap(), input(), free(true, 1, 2), free(false, 1, 2)), workers, self)
			n := int64(workers)
			counts(t, w, ch(0, n, 0), ch(2, n, 0), ch(4, n, 0), ch(5, n, 0))
			tokens(t, w, ch(0, 1, 0), ch(2, 1, 0), ch(4, 1, 0), ch(5, 1, 0))
			is(t, "Held", w.Held(), held(1, 4, 0), held(2, 5, 0))
			for node, input := range []bool{true, false, true, false, false} {
				if epoch, open := w.Epoch(node); epoch != at() || open != input {
					t.Errorf("Epoch(%d) = %v, %v", node, epoch, open)
				}
			}
			for place := range 10 {
				waits(t, w, place, 0)
			}
			catches(t, w, 1)
			does(t, w, step(0))
		}
	}
}

func TestTheFirstNumbers(t *testing.T) { // P25.1, P25.4
	w := alone(t, nodes(free(true, 2, 0), free(true, 1, 3), mapper(), free(false, 0, 4), free(true, 0, 1)))
	is(t, "Held", w.Held(), held(1, 3, 0), held(2, 4, 0), held(3, 5, 0), held(4, 12, 0))
	mints(t, does(t, w, clone(4), ch(12, 1, 0)), api.Message{}, 5)
	none := alone(t, nodes(free(true, 1, 0), free(false, 1, 1)))
	is(t, "Held", none.Held())
	all := begin(t, greatest(true), 8, 3)
	if l := all.Held(); len(l) != 96 || l[0] != held(1, 4, 0) || l[95] != held(96, 191, 0) {
		t.Errorf("Held: %v", l)
	}
	if l := all.Counts(); len(l) != 96 || l[95] != ch(191, 8, 0) {
		t.Errorf("Counts: %v", l)
	}
}

func TestAGraphWithoutNodes(t *testing.T) { // P25.1
	w := begin(t, api.Graph{Arity: 2}, 3, 1)
	does(t, w, step(-1))
	for _, c := range []asked{send(0, at(), rec(0, 0), 9), advance(0, at()), shut(0), run(0, 9)} {
		refuses(t, w, c, api.ErrNode)
	}
	refuses(t, w, take(0), api.ErrPlace)
	refuses(t, w, drop(1), api.ErrCap)
	counts(t, w)
	tokens(t, w)
}

// looks is what a graph tells of itself, as a text.
func looks(g *graph.Graph) string {
	l := []any{g.Raw(), g.Arity(), g.Nodes(), g.Places()}
	for node := range g.Nodes() {
		l = append(l, g.Conns(node))
	}
	for place := range g.Places() {
		node, port, in := g.Of(place)
		l = append(l, node, port, in, slices.Collect(g.Edges(place)))
	}
	return fmt.Sprint(l...)
}

func TestTheGraphStaysAsItWas(t *testing.T) { // P25.1, P2, P5
	for i, raw := range []api.Graph{summed(), taking(), draws.Ring(), draws.Busy(), draws.Rounds(), doubling(6), doubling(7), stands(), greatest(true)} {
		raw = draws.Roomy(raw)
		was := draws.Spare(raw)
		g := made(t, raw)
		looked := looks(g)
		w, _ := New(g, 3, 1)
		other, _ := New(g, 3, 1)
		kept := answersOf(other)
		for place := range g.Places() {
			w.Pass(msg(place, at(1), 1, 1))
			w.Take(place)
		}
		for node := range g.Nodes() {
			w.Send(node, at(), rec(1, 1), 99)
			w.Close(node)
		}
		w.Step(wide)
		if looks(g) != looked || !reflect.DeepEqual(draws.Spare(raw), was) {
			t.Errorf("graph %d is changed", i)
		}
		// Two of one graph have nothing to do with each other.
		if answersOf(other) != kept {
			t.Errorf("graph %d: what is done to one is seen in another", i)
		}
		// Raw may be written over.
		clear(g.Raw().Nodes)
		clear(raw.Nodes)
		clear(raw.Edges)
		if answersOf(other) != kept || w != nil && !alike(w, w.Copy()) {
			t.Errorf("graph %d: what is written over is seen", i)
		}
	}
}
