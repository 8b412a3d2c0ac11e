package route

import (
	"math"
	"reflect"
	"slices"
	"sync"
	"testing"

	"sluice/api"
	"sluice/draws"
	"sluice/graph"
)

// asked is what is told of all numbers that could be a place's, and of some that could not.
func asked(g *graph.Graph, r api.Record, own, workers int) [][]Out {
	var l [][]Out
	for place := -1; place <= g.Places(); place++ {
		l = append(l, Send(g, place, api.Time{A: 2, B: 1}, r, own, workers))
	}
	return l
}

func copied(l [][]Out) [][]Out {
	var c [][]Out
	for _, m := range l {
		c = append(c, slices.Clone(m))
	}
	return c
}

func same(l, m [][]Out) bool { return slices.EqualFunc(l, m, slices.Equal) }

// spoiled writes over a list, grows it, and writes over the room behind it.
func spoiled(l []Out) {
	with := out(-7, -7, api.Time{A: 7, B: 7, C: 7}, api.Record{Key: 77, Val: 77})
	grown := append(l, with)
	for _, m := range [][]Out{l[:cap(l)], grown[:cap(grown)]} {
		for i := range m {
			m[i] = with
		}
	}
}

// looks is what a graph tells of itself.
func looks(g *graph.Graph) []any {
	l := []any{g.Raw(), g.Arity(), g.Nodes(), g.Places()}
	for node := range g.Nodes() {
		l = append(l, g.Conns(node))
	}
	for place := range g.Places() {
		node, port, in := g.Of(place)
		l = append(l, node, port, in, slices.Collect(g.Edges(place)))
	}
	return l
}

func graphs() []api.Graph {
	l := []api.Graph{{Arity: 1}, {Arity: 1, Nodes: []api.Node{input()}}, example(), tangle(), fullest()}
	for seed := range 20 {
		l = append(l, draws.Graph(draws.Numbers(uint64(seed)), 10, 40))
	}
	return l
}

func TestOfANilGraph(t *testing.T) { // P18.3, P1
	numbers := []int{0, 1, 2, 7, 8, 9, -1, math.MaxInt, math.MinInt}
	bad, _, _ := graph.New(api.Graph{})
	for _, g := range []*graph.Graph{nil, bad} {
		for _, place := range numbers {
			for _, own := range numbers {
				for _, workers := range numbers {
					if l := Send(g, place, api.Time{}, api.Record{}, own, workers); len(l) != 0 {
						t.Errorf("Send(nil, %d, .., %d, %d) = %v", place, own, workers, l)
					}
				}
			}
		}
	}
}

func TestOfAGraphThatNewDidNotMake(t *testing.T) { // P1: no answer of it is promised, but that the call ends without a panic
	for _, place := range []int{0, 1, -1, math.MaxInt, math.MinInt} {
		Send(new(graph.Graph), place, api.Time{}, api.Record{}, 0, 1)
	}
}

func TestWhatIsToldIsNewMemory(t *testing.T) { // P2, P3
	r := api.Record{Key: 5, Val: 6}
	for i, raw := range graphs() {
		g := made(t, raw)
		one := asked(g, r, 1, 3)
		kept := copied(one)
		two := asked(g, r, 1, 3)
		for _, l := range one {
			spoiled(l)
		}
		if !same(two, kept) {
			t.Errorf("graph %d: an answer that is written over is seen in another one", i)
		}
		if !same(asked(g, r, 1, 3), kept) {
			t.Errorf("graph %d: asked again, it is told otherwise", i)
		}
	}
}

func TestTheGraphStaysAsItWas(t *testing.T) { // P2
	for i, raw := range graphs() {
		raw = draws.Roomy(raw)
		was := draws.Spare(raw)
		g := made(t, raw)
		looked := looks(g)
		for own := -1; own <= 3; own++ {
			for _, l := range asked(g, api.Record{Key: 1, Val: 2}, own, 3) {
				spoiled(l)
			}
		}
		if !reflect.DeepEqual(looks(g), looked) || !reflect.DeepEqual(draws.Spare(raw), was) {
			t.Errorf("graph %d is changed", i)
		}
	}
}

func TestNothingIsKeptFromCallToCall(t *testing.T) { // P3, P5
	r, s := api.Record{Key: 5, Val: 6}, api.Record{Key: last, Val: 1}
	for i, raw := range graphs() {
		want := copied(asked(made(t, raw), r, 1, 3))
		g := made(t, raw)
		for j, other := range graphs() {
			asked(made(t, other), s, 6, 7)
			asked(g, s, 4, 8)
			if !same(asked(g, r, 1, 3), want) {
				t.Errorf("graph %d: behind calls of graph %d it is told otherwise", i, j)
			}
		}
	}
}

func TestManyAskAtOnce(t *testing.T) { // P3
	r := api.Record{Key: 11, Val: 6}
	for i, raw := range graphs() {
		g := made(t, raw)
		want := asked(g, r, 2, 5)
		var group sync.WaitGroup
		for range 8 {
			group.Go(func() {
				for range 5 {
					l := asked(g, r, 2, 5)
					if !same(l, want) {
						t.Errorf("graph %d: many who ask are told otherwise", i)
					}
					for _, m := range l {
						spoiled(m)
					}
				}
			})
		}
		group.Wait()
	}
}
