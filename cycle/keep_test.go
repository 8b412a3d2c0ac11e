package cycle

import (
	"reflect"
	"slices"
	"sync"
	"testing"

	"sluice/api"
	"sluice/draws"
	"sluice/graph"
)

// answers are what the three calls tell of a graph.
type answers struct {
	order, ranks, ring []int
	e, f               api.Errno
}

func told(g *graph.Graph) answers {
	var a answers
	a.order, a.e = Order(g)
	a.ranks, a.f = Rank(g)
	a.ring = Find(g)
	return a
}

// spoil writes over the lists, grows them, and writes over the room behind them.
func (a answers) spoil() {
	for _, l := range [][]int{a.order, a.ranks, a.ring} {
		grown := append(l, -9)
		for _, m := range [][]int{l[:cap(l)], grown[:cap(grown)]} {
			for i := range m {
				m[i] = -9
			}
		}
	}
}

func (a answers) copied() answers {
	a.order, a.ranks, a.ring = slices.Clone(a.order), slices.Clone(a.ranks), slices.Clone(a.ring)
	return a
}

func (a answers) same(b answers) bool {
	return slices.Equal(a.order, b.order) && slices.Equal(a.ranks, b.ranks) && slices.Equal(a.ring, b.ring) && a.e == b.e && a.f == b.f
}

// several are graphs with and without an empty cycle.
func several() []api.Graph {
	return []api.Graph{{Arity: 2}, round(api.Path{A: 1}), round(api.Path{}), mapped(3, [2]int{2, 1}, [2]int{1, 0}), mapped(3, [2]int{2, 1}, [2]int{1, 2}), crowd()}
}

// looks is what a graph tells of itself.
func looks(g *graph.Graph) []any {
	l := []any{g.Raw(), g.Arity(), g.Nodes(), g.Places()}
	for node := range g.Nodes() {
		l = append(l, g.Conns(node))
	}
	for place := range g.Places() {
		node, port, in := g.Of(place)
		l = append(l, node, port, in, slices.Collect(g.Edges(place)))
	}
	return l
}

func TestAskedTwice(t *testing.T) { // P2, P3
	for i, raw := range several() {
		g := made(t, "several", raw)
		one := told(g)
		kept := one.copied()
		two := told(g)
		one.spoil()
		if !two.same(kept) {
			t.Errorf("graph %d: an answer that is written over is seen in another one", i)
		}
		if three := told(g); !three.same(kept) {
			t.Errorf("graph %d: asked again, it is told otherwise", i)
		}
	}
}

func TestListsOfOneGraphAreEachItsOwn(t *testing.T) { // P2
	for i, raw := range several() {
		g := made(t, "several", raw)
		kept := told(g).copied()
		for _, turn := range []func(a *answers){
			func(a *answers) { answers{order: a.order}.spoil(); a.order = kept.order },
			func(a *answers) { answers{ranks: a.ranks}.spoil(); a.ranks = kept.ranks },
			func(a *answers) { answers{ring: a.ring}.spoil(); a.ring = kept.ring },
		} {
			a := told(g)
			turn(&a)
			if !a.same(kept) {
				t.Errorf("graph %d: one list that is written over is seen in another one", i)
			}
		}
	}
}

func TestTheGraphStaysAsItWas(t *testing.T) { // P2
	for i, raw := range several() {
		raw = draws.Roomy(raw)
		was := draws.Spare(raw)
		g := made(t, "several", raw)
		looked := looks(g)
		told(g).spoil()
		if !reflect.DeepEqual(looks(g), looked) || !reflect.DeepEqual(draws.Spare(raw), was) {
			t.Errorf("graph %d is changed", i)
		}
	}
}

func TestTwoGraphsHaveNothingToDoWithEachOther(t *testing.T) { // P3, P5
	var graphs []*graph.Graph
	var kept []answers
	for _, raw := range several() {
		g := made(t, "several", raw)
		graphs, kept = append(graphs, g), append(kept, told(g).copied())
	}
	for i := range graphs {
		for j := range graphs {
			told(graphs[i]).spoil()
			if !told(graphs[j]).same(kept[j]) {
				t.Errorf("graph %d is told otherwise behind graph %d", j, i)
			}
		}
	}
	for i, raw := range several() {
		if !told(made(t, "several", raw)).same(kept[i]) {
			t.Errorf("graph %d, made again, is told otherwise", i)
		}
	}
}

func TestTheOrderOfEdgesAndConnectionsPlaysNoPart(t *testing.T) { // P3
	for seed := range 2000 {
		next := draws.Numbers(uint64(seed))
		raw := draws.Graph(next, 12, 20)
		kept := told(made(t, "drawn", raw))
		raw.Edges = draws.Mixed(raw.Edges, next)
		for i, n := range raw.Nodes {
			raw.Nodes[i].Conns = draws.Mixed(n.Conns, next)
		}
		if !told(made(t, "mixed", raw)).same(kept) {
			t.Fatalf("seed %d: it is told otherwise: %v", seed, raw)
		}
	}
}

func TestManyAskAtOnce(t *testing.T) { // P3
	for _, raw := range several() {
		g := made(t, "several", raw)
		kept := told(g)
		var all sync.WaitGroup
		for range 8 {
			all.Go(func() {
				if !told(g).same(kept) {
					t.Error("many who ask are told otherwise")
				}
			})
		}
		all.Wait()
	}
}
