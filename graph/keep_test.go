package graph

import (
	"reflect"
	"slices"
	"sync"
	"testing"

	"sluice/api"
	"sluice/draws"
)

// full has every list, and something in each.
func full() api.Graph {
	return api.Graph{
		Arity: 2,
		Nodes: []api.Node{
			{Kind: api.KInput, Outs: 1},
			{Kind: api.KMap, Ins: 1, Outs: 1, Code: []api.Op{{Kind: 1, Arg: 5}, {Kind: 2}}},
			{Kind: api.KFilter, Ins: 1, Outs: 1, Code: []api.Op{{Kind: 3}}},
			{Kind: api.KJoin, Ins: 2, Outs: 1},
			{Kind: api.KLoop, Ins: 1, Outs: 1, By: api.Path{B: 1}, Bound: 8},
			{Kind: api.KFree, Ins: 2, Outs: 2, Conns: []api.Conn{{In: 1, By: api.Path{A: 2}}, {Out: 1}}, Start: true},
			{Kind: api.KFree, Ins: 1, Outs: 1, Conns: []api.Conn{{}}},
			{Kind: api.KProbe, Ins: 1},
		},
		Edges: []api.Edge{{From: 0, To: 1}, {From: 1, To: 2, Keyed: true}, {From: 2, To: 3}, {From: 3, To: 4}, {From: 4, To: 3, In: 1}, {From: 3, To: 5, In: 1}, {From: 5, Out: 1, To: 6}, {From: 6, To: 7}},
	}
}

func cloned(g api.Graph) api.Graph {
	g.Nodes, g.Edges = slices.Clone(g.Nodes), slices.Clone(g.Edges)
	for i := range g.Nodes {
		g.Nodes[i].Code, g.Nodes[i].Conns = slices.Clone(g.Nodes[i].Code), slices.Clone(g.Nodes[i].Conns)
	}
	return g
}

// same tells whether two graphs are alike; a list without elements is none.
func same(g, h api.Graph) bool {
	alike := func(m, n api.Node) bool {
		if !slices.Equal(m.Code, n.Code) || !slices.Equal(m.Conns, n.Conns) {
			return false
		}
		m.Code, m.Conns, n.Code, n.Conns = nil, nil, nil, nil
		return reflect.DeepEqual(m, n)
	}
	return g.Arity == h.Arity && slices.EqualFunc(g.Nodes, h.Nodes, alike) && slices.Equal(g.Edges, h.Edges)
}

// spoil writes over every list of a graph, and over the room behind it.
func spoil(g api.Graph) {
	for i := range g.Nodes {
		for j := range g.Nodes[i].Code[:cap(g.Nodes[i].Code)] {
			g.Nodes[i].Code[:cap(g.Nodes[i].Code)][j] = api.Op{Kind: 99, Arg: 99}
		}
		for j := range g.Nodes[i].Conns[:cap(g.Nodes[i].Conns)] {
			g.Nodes[i].Conns[:cap(g.Nodes[i].Conns)][j] = api.Conn{In: 99}
		}
	}
	for i := range g.Nodes[:cap(g.Nodes)] {
		g.Nodes[:cap(g.Nodes)][i] = api.Node{Kind: 99}
	}
	for i := range g.Edges[:cap(g.Edges)] {
		g.Edges[:cap(g.Edges)][i] = api.Edge{From: 99}
	}
}

// told is all that a graph tells, as new memory.
func told(g *Graph) []any {
	l := []any{cloned(g.Raw()), g.Arity(), g.Nodes(), g.Places()}
	for node := -1; node <= g.Nodes(); node++ {
		for port := -1; port <= api.MaxPorts; port++ {
			l = append(l, g.In(node, port), g.Out(node, port))
		}
		l = append(l, slices.Clone(g.Conns(node)))
	}
	for place := -1; place <= g.Places(); place++ {
		node, port, in := g.Of(place)
		l = append(l, node, port, in, slices.Collect(g.Edges(place)))
	}
	return l
}

func TestRawIsWhatNewWasGiven(t *testing.T) { // P9.2
	for _, raw := range []api.Graph{full(), counted(), {Arity: 3}, {Arity: 1, Nodes: frees(24), Edges: apart(48)}, {Arity: 1, Nodes: kinds(), Edges: []api.Edge{}}} {
		g := ask(t, "raw", raw, api.OK, 0)
		if !same(g.Raw(), raw) || g.Arity() != raw.Arity || g.Nodes() != len(raw.Nodes) {
			t.Errorf("%v comes out as %v", raw, g.Raw())
		}
	}
}

func TestAGraphHandedInStaysAsItWas(t *testing.T) { // P9.2, P2
	raw := draws.Roomy(full())
	was := draws.Spare(raw)
	g := ask(t, "full", raw, api.OK, 0)
	told(g)
	if !reflect.DeepEqual(draws.Spare(raw), was) {
		t.Error("what was handed in is changed")
	}
	raw = draws.Roomy(full())
	raw.Edges[3].In = -1
	was = draws.Spare(raw)
	ask(t, "an edge that may not be", raw, api.ErrEdge, 11)
	if !reflect.DeepEqual(draws.Spare(raw), was) {
		t.Error("what was handed in is changed beside an error")
	}
}

func TestAGraphHandedInIsNotKept(t *testing.T) { // P9.2, P2
	raw := draws.Roomy(full())
	g := ask(t, "full", raw, api.OK, 0)
	was := told(g)
	spoil(raw)
	if !reflect.DeepEqual(told(g), was) || !same(g.Raw(), full()) {
		t.Error("what was handed in is kept")
	}
}

func TestRawIsNewMemory(t *testing.T) { // P9.2, P2
	g := ask(t, "full", full(), api.OK, 0)
	was := told(g)
	one, two := g.Raw(), g.Raw()
	spoil(one)
	if !same(two, full()) || !reflect.DeepEqual(told(g), was) {
		t.Error("an answer that is written over is seen elsewhere")
	}
}

func TestListsOfRawAreEachItsOwn(t *testing.T) { // P9.2, P2
	g := ask(t, "full", full(), api.OK, 0)
	for i := range full().Nodes {
		raw := g.Raw()
		raw.Nodes[i].Code = append(raw.Nodes[i].Code, api.Op{Kind: 99})
		raw.Nodes[i].Conns = append(raw.Nodes[i].Conns, api.Conn{In: 99})
		raw.Nodes[i].Code, raw.Nodes[i].Conns = full().Nodes[i].Code, full().Nodes[i].Conns
		if !same(raw, full()) || !same(g.Raw(), full()) {
			t.Errorf("a list of node %d that is grown is seen elsewhere", i)
		}
	}
}

func TestConnsAreNewMemory(t *testing.T) { // P9.5, P2
	g := ask(t, "full", full(), api.OK, 0)
	was := told(g)
	for node := range g.Nodes() {
		one, two := g.Conns(node), g.Conns(node)
		kept := slices.Clone(two)
		grown := append(one, api.Conn{In: 99})
		for i := range grown[:cap(grown)] {
			grown[:cap(grown)][i] = api.Conn{In: 99}
		}
		for i := range one[:cap(one)] {
			one[:cap(one)][i] = api.Conn{In: 99}
		}
		if !slices.Equal(two, kept) || !reflect.DeepEqual(told(g), was) {
			t.Errorf("node %d: an answer that is written over is seen elsewhere", node)
		}
	}
}

func TestTwoGraphsHaveNothingToDoWithEachOther(t *testing.T) { // P5
	one := ask(t, "full", full(), api.OK, 0)
	was := told(one)
	two := ask(t, "example 1", counted(), api.OK, 0)
	if !reflect.DeepEqual(told(one), was) || reflect.DeepEqual(told(two), was) {
		t.Error("one graph is seen in another")
	}
	if again := ask(t, "full", full(), api.OK, 0); !reflect.DeepEqual(told(again), was) {
		t.Error("the same graph is told otherwise")
	}
}

func TestANilGraph(t *testing.T) { // P1
	var g *Graph
	if !reflect.DeepEqual(g.Raw(), api.Graph{}) || g.Arity() != 0 || g.Nodes() != 0 || g.Places() != 0 {
		t.Error("a nil graph has something")
	}
	for _, n := range []int{-1, 0, 1, 1 << 40} {
		node, port, in := g.Of(n)
		if g.In(n, n) != 0 || g.Out(n, n) != 0 || node != 0 || port != 0 || in || len(g.Conns(n)) != 0 {
			t.Errorf("a nil graph has something at %d", n)
		}
		edges := g.Edges(n)
		if edges == nil {
			t.Fatal("a nil iterator")
		}
		for edge := range edges {
			t.Errorf("Edges(%d) of a nil graph gives %d", n, edge)
		}
	}
}

func TestManyLookAtOneGraph(t *testing.T) { // P3
	g := ask(t, "full", full(), api.OK, 0)
	was := told(g)
	var all sync.WaitGroup
	for range 8 {
		all.Go(func() {
			if !reflect.DeepEqual(told(g), was) {
				t.Error("many who look are told otherwise")
			}
		})
	}
	all.Wait()
}
