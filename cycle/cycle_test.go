package cycle

import (
	"math"
	"slices"
	"testing"

	"sluice/api"
	"sluice/graph"
)

func input() api.Node { return api.Node{Kind: api.KInput, Outs: 1} }
func probe() api.Node { return api.Node{Kind: api.KProbe, Ins: 1} }

func join(ins int) api.Node { return api.Node{Kind: api.KJoin, Ins: ins, Outs: 1} }

func loop(by api.Path) api.Node { return api.Node{Kind: api.KLoop, Ins: 1, Outs: 1, By: by} }

func free(ins, outs int, conns ...api.Conn) api.Node {
	return api.Node{Kind: api.KFree, Ins: ins, Outs: outs, Conns: conns}
}

// maps are so many: the places of the map n are 2 n and 2 n + 1.
func maps(many int) []api.Node {
	return slices.Repeat([]api.Node{{Kind: api.KMap, Ins: 1, Outs: 1}}, many)
}

// edges lead from the first port of a node to the first of another one.
func edges(pairs ...[2]int) []api.Edge {
	var l []api.Edge
	for _, p := range pairs {
		l = append(l, api.Edge{From: p[0], To: p[1]})
	}
	return l
}

// mapped is a graph of maps.
func mapped(many int, pairs ...[2]int) api.Graph {
	return api.Graph{Arity: 1, Nodes: maps(many), Edges: edges(pairs...)}
}

// round is the graph of the chapter's third example.
func round(by api.Path) api.Graph {
	return api.Graph{Arity: 3, Nodes: []api.Node{input(), join(2), loop(by)}, Edges: []api.Edge{{From: 0, To: 1}, {From: 1, To: 2}, {From: 2, To: 1, In: 1}}}
}

func made(t *testing.T, what string, g api.Graph) *graph.Graph {
	t.Helper()
	x, e, at := graph.New(g)
	if e != api.OK {
		t.Fatalf("%s: the graph may not be: %d at %d", what, e, at)
	}
	return x
}

// orderly holds the calls to what they answer of a graph without an empty cycle.
func orderly(t *testing.T, what string, raw api.Graph, order, ranks []int) {
	t.Helper()
	g := made(t, what, raw)
	if l, e := Order(g); e != api.OK || !slices.Equal(l, order) {
		t.Errorf("%s: Order = %v, %d, want %v", what, l, e, order)
	}
	if l, e := Rank(g); e != api.OK || !slices.Equal(l, ranks) {
		t.Errorf("%s: Rank = %v, %d, want %v", what, l, e, ranks)
	}
	if l := Find(g); len(l) != 0 {
		t.Errorf("%s: Find = %v, want none", what, l)
	}
}

// ringed holds the calls to what they answer of a graph with an empty cycle.
func ringed(t *testing.T, what string, raw api.Graph, ring ...int) {
	t.Helper()
	g := made(t, what, raw)
	if l, e := Order(g); e != api.ErrCycle || len(l) != 0 {
		t.Errorf("%s: Order = %v, %d, want %d", what, l, e, api.ErrCycle)
	}
	if l, e := Rank(g); e != api.ErrCycle || len(l) != 0 {
		t.Errorf("%s: Rank = %v, %d, want %d", what, l, e, api.ErrCycle)
	}
	if l := Find(g); !slices.Equal(l, ring) {
		t.Errorf("%s: Find = %v, want %v", what, l, ring)
	}
}

// upTo are the numbers from 0 on.
func upTo(many int) []int {
	var l []int
	for i := range many {
		l = append(l, i)
	}
	return l
}

func TestTheExamples(t *testing.T) { // P10.1 to P10.4
	line := api.Graph{Arity: 1, Nodes: []api.Node{input(), maps(1)[0], probe()}, Edges: edges([2]int{0, 1}, [2]int{1, 2})}
	orderly(t, "example 1", line, []int{0, 1, 2, 3}, []int{0, 1, 2, 3})
	ringed(t, "example 2", mapped(2, [2]int{0, 1}, [2]int{1, 0}), 0, 1, 2, 3)
	orderly(t, "example 3", round(api.Path{A: 1}), []int{0, 1, 5, 2, 3, 4}, []int{0, 1, 1, 2, 3, 0})
	ringed(t, "example 3 with By 0 0 0", round(api.Path{}), 2, 3, 4, 5)
	ringed(t, "example 4", api.Graph{Arity: 1, Nodes: []api.Node{free(1, 1, api.Conn{}, api.Conn{By: api.Path{A: 1}})}, Edges: edges([2]int{0, 0})}, 0, 1)
	orderly(t, "example 5", mapped(2), []int{0, 1, 2, 3}, []int{0, 1, 0, 1})
	orderly(t, "example 6", api.Graph{Arity: 1}, nil, nil)
}

func TestANilGraph(t *testing.T) { // P10.1 to P10.3, P1
	if l, e := Order(nil); e != api.ErrArg || len(l) != 0 {
		t.Errorf("Order(nil) = %v, %d", l, e)
	}
	if l, e := Rank(nil); e != api.ErrArg || len(l) != 0 {
		t.Errorf("Rank(nil) = %v, %d", l, e)
	}
	if l := Find(nil); len(l) != 0 {
		t.Errorf("Find(nil) = %v", l)
	}
}

func TestAGraphWithoutPlaces(t *testing.T) { // P10.1 to P10.3
	for arity := 1; arity <= api.MaxArity; arity++ {
		orderly(t, "no nodes", api.Graph{Arity: arity}, nil, nil)
		orderly(t, "nodes without ports", api.Graph{Arity: arity, Nodes: []api.Node{free(0, 0), free(0, 0)}}, nil, nil)
	}
}

func TestNodesThatDontTouch(t *testing.T) { // P10.1, P10.2
	nodes := []api.Node{probe(), input(), join(3), loop(api.Path{}), loop(api.Path{C: 1}), free(2, 2, api.Conn{In: 1}), {Kind: api.KSum, Ins: 1, Outs: 1}, {Kind: api.KFilter, Ins: 1, Outs: 1}}
	// Places: probe 0, input 1, join 2 3 4 5, loops 6 7 and 8 9, free 10 11 12 13, sum 14 15, filter 16 17.
	order := []int{0, 1, 2, 3, 4, 5, 6, 7, 8, 9, 10, 11, 12, 13, 14, 15, 16, 17}
	orderly(t, "one of each", api.Graph{Arity: 3, Nodes: nodes}, order, []int{0, 0, 0, 0, 0, 1, 0, 1, 0, 0, 0, 0, 1, 0, 0, 1, 0, 1})
}

func TestEachKindRoundToItself(t *testing.T) { // P10.1 to P10.4
	itself := func(n api.Node) api.Graph {
		return api.Graph{Arity: 3, Nodes: []api.Node{n}, Edges: []api.Edge{{Keyed: n.Kind == api.KSum}}}
	}
	for _, kind := range []int{api.KMap, api.KFilter, api.KJoin, api.KLoop, api.KSum} {
		ringed(t, "a node", itself(api.Node{Kind: kind, Ins: 1, Outs: 1}), 0, 1)
	}
	for _, by := range []api.Path{{A: 1}, {B: 1}, {C: 1}, {A: math.MaxUint64}, {B: 1 << 63}, {C: math.MaxUint64}, {A: 2, B: 3, C: 4}} {
		orderly(t, "a loop that advances", itself(loop(by)), []int{1, 0}, []int{1, 0})
		orderly(t, "a free node that advances", itself(free(1, 1, api.Conn{By: by})), []int{1, 0}, []int{1, 0})
		ringed(t, "a free node that advances, and another way", itself(free(1, 1, api.Conn{By: by}, api.Conn{})), 0, 1)
		ringed(t, "the other way first", itself(free(1, 1, api.Conn{}, api.Conn{By: by})), 0, 1)
	}
	ringed(t, "a free node", itself(free(1, 1, api.Conn{})), 0, 1)
	orderly(t, "a free node without connections", itself(free(1, 1)), []int{1, 0}, []int{1, 0})
}

func TestABoundPlaysNoPart(t *testing.T) { // P10.1, P10.3
	for _, bound := range []uint64{0, 1, api.MaxBound} {
		g := round(api.Path{})
		g.Nodes[2].Bound = bound
		ringed(t, "an empty By", g, 2, 3, 4, 5)
		g.Nodes[2].By.B = 1
		orderly(t, "a By that advances", g, []int{0, 1, 5, 2, 3, 4}, []int{0, 1, 1, 2, 3, 0})
	}
}

func TestKeysPlayNoPart(t *testing.T) { // P10.1 to P10.3
	g := mapped(2, [2]int{1, 0})
	g.Edges[0].Keyed = true
	orderly(t, "a keyed edge", g, []int{2, 3, 0, 1}, []int{2, 3, 0, 1})
	g.Edges = append(g.Edges, api.Edge{From: 0, To: 1, Keyed: true})
	ringed(t, "two of them", g, 0, 1, 2, 3)
}

func TestSeveralBetweenTheSameTwo(t *testing.T) { // P10.1, P10.2
	// Places: input 0, join 1 2 3 4 5, probe 6.
	g := api.Graph{Arity: 1, Nodes: []api.Node{input(), join(4), probe()}}
	for in := range 4 {
		g.Edges = append(g.Edges, api.Edge{From: 0, To: 1, In: in})
	}
	g.Edges = append(g.Edges, api.Edge{From: 1, To: 2})
	orderly(t, "four edges", g, upTo(7), []int{0, 1, 1, 1, 1, 2, 3})
	by := func(a uint64) api.Conn { return api.Conn{By: api.Path{A: a}} }
	// Places: free 0 1 and 2 3.
	g = api.Graph{Arity: 1, Nodes: []api.Node{free(1, 1, by(2), by(0), by(1), by(3)), free(1, 1, by(1), by(2))}, Edges: edges([2]int{1, 0})}
	orderly(t, "connections between two ports", g, []int{2, 3, 0, 1}, []int{1, 2, 0, 0})
	g.Edges = edges([2]int{1, 0}, [2]int{0, 1})
	orderly(t, "and back", g, []int{3, 0, 1, 2}, []int{1, 2, 3, 0})
	g.Nodes[1].Conns = append(g.Nodes[1].Conns, by(0))
	ringed(t, "and none that advances", g, 0, 1, 2, 3)
}

func TestWhichPlaceComesNext(t *testing.T) { // P10.1
	orderly(t, "maps the other way", mapped(3, [2]int{2, 1}, [2]int{1, 0}), []int{4, 5, 2, 3, 0, 1}, []int{4, 5, 2, 3, 0, 1})
	// A place that waits no longer comes ahead of higher ones that never waited: map 0 1, inputs 2 3.
	g := api.Graph{Arity: 1, Nodes: []api.Node{maps(1)[0], input(), input()}, Edges: edges([2]int{1, 0})}
	orderly(t, "behind the first input", g, []int{2, 0, 1, 3}, []int{1, 2, 0, 0})
	g.Edges = edges([2]int{2, 0})
	orderly(t, "behind the second input", g, []int{2, 3, 0, 1}, []int{1, 2, 0, 0})
	g.Edges = edges([2]int{2, 0}, [2]int{1, 0})
	orderly(t, "behind both", g, []int{2, 3, 0, 1}, []int{1, 2, 0, 0})
	// Two ways at once: the lowest of both, not one way to its end.
	orderly(t, "two ways", mapped(4, [2]int{3, 0}, [2]int{2, 1}), []int{4, 5, 2, 3, 6, 7, 0, 1}, []int{2, 3, 2, 3, 0, 1, 0, 1})
	orderly(t, "two ways in one", mapped(4, [2]int{3, 1}, [2]int{1, 0}, [2]int{2, 0}), []int{4, 5, 6, 7, 2, 3, 0, 1}, []int{4, 5, 2, 3, 0, 1, 0, 1})
}

func TestRankIsByTheLongestWay(t *testing.T) { // P10.2
	// The last map is reached at once, and by way of the others; the edges stand in both orders.
	pairs := [][2]int{{0, 4}, {0, 1}, {1, 2}, {2, 3}, {3, 4}, {1, 4}}
	ranks := []int{0, 1, 2, 3, 4, 5, 6, 7, 8, 9}
	orderly(t, "a long way and short ones", mapped(5, pairs...), upTo(10), ranks)
	slices.Reverse(pairs)
	orderly(t, "in the other order", mapped(5, pairs...), upTo(10), ranks)
	// The long way goes by the highest numbers, so that it is met last: 0 to 1, and 0 to 4 to 3 to 2 to 1.
	back := mapped(5, [2]int{0, 1}, [2]int{0, 4}, [2]int{4, 3}, [2]int{3, 2}, [2]int{2, 1})
	orderly(t, "the long way met last", back, []int{0, 1, 8, 9, 6, 7, 4, 5, 2, 3}, []int{0, 1, 8, 9, 6, 7, 4, 5, 2, 3})
	// A way that advances isn't counted, however long: input 0, loop 1 2, join 3 4 5.
	g := api.Graph{Arity: 1, Nodes: []api.Node{input(), loop(api.Path{A: 1}), join(2)}, Edges: []api.Edge{{From: 0, To: 1}, {From: 1, To: 2}, {From: 0, To: 2, In: 1}}}
	orderly(t, "a way that advances", g, []int{0, 1, 2, 3, 4, 5}, []int{0, 1, 0, 1, 1, 2})
	g.Nodes[1].By.A = 0
	orderly(t, "and one that doesn't", g, []int{0, 1, 2, 3, 4, 5}, []int{0, 1, 2, 3, 1, 4})
}

func TestAnEmptyCycleInsideAGreaterOne(t *testing.T) { // P10.3
	great := [][2]int{{0, 1}, {1, 2}, {2, 3}, {3, 0}}
	ringed(t, "the greater one has the lowest place", mapped(4, append(great, [2]int{2, 1})...), 0, 1, 2, 3, 4, 5, 6, 7)
	ringed(t, "both have it", mapped(4, append(great, [2]int{2, 0})...), 0, 1, 2, 3, 4, 5)
	ringed(t, "a map round to itself", mapped(4, append(great, [2]int{3, 3})...), 0, 1, 2, 3, 4, 5, 6, 7)
	ringed(t, "the first map round to itself", mapped(4, append(great, [2]int{0, 0})...), 0, 1)
}

func TestTheFewestPlaces(t *testing.T) { // P10.3
	ringed(t, "the higher place leads back sooner", mapped(4, [2]int{0, 1}, [2]int{1, 2}, [2]int{2, 0}, [2]int{0, 3}, [2]int{3, 0}), 0, 1, 6, 7)
	ringed(t, "the lower place leads back sooner", mapped(4, [2]int{0, 2}, [2]int{2, 3}, [2]int{3, 0}, [2]int{0, 1}, [2]int{1, 0}), 0, 1, 2, 3)
	ringed(t, "further down", mapped(5, [2]int{0, 1}, [2]int{1, 2}, [2]int{2, 3}, [2]int{3, 0}, [2]int{1, 4}, [2]int{4, 0}), 0, 1, 2, 3, 8, 9)
	ringed(t, "a lower place that never leads back", mapped(3, [2]int{1, 0}, [2]int{1, 2}, [2]int{2, 1}), 2, 3, 4, 5)
	ringed(t, "a place met deep down first, and then sooner", mapped(5, [2]int{0, 1}, [2]int{1, 2}, [2]int{2, 4}, [2]int{0, 4}, [2]int{4, 3}, [2]int{3, 0}), 0, 1, 8, 9, 6, 7)
}

func TestTheLowerNumberAtTheFirstDifference(t *testing.T) { // P10.3
	ringed(t, "at the first step", mapped(3, [2]int{0, 2}, [2]int{2, 0}, [2]int{0, 1}, [2]int{1, 0}), 0, 1, 2, 3)
	ringed(t, "further down", mapped(5, [2]int{0, 1}, [2]int{1, 4}, [2]int{4, 0}, [2]int{1, 3}, [2]int{3, 0}, [2]int{1, 2}), 0, 1, 2, 3, 6, 7)
	// 0 1 4 0 against 0 2 3 0: the first difference counts, not the lowest number of all.
	ringed(t, "the first difference, not a later one", mapped(5, [2]int{0, 2}, [2]int{2, 3}, [2]int{3, 0}, [2]int{0, 1}, [2]int{1, 4}, [2]int{4, 0}), 0, 1, 2, 3, 8, 9)
	ringed(t, "in the other order", mapped(5, [2]int{0, 1}, [2]int{1, 4}, [2]int{4, 0}, [2]int{0, 2}, [2]int{2, 3}, [2]int{3, 0}), 0, 1, 2, 3, 8, 9)
}

func TestEmptyCyclesThatDontTouch(t *testing.T) { // P10.3
	ringed(t, "the longer one has the lower place", mapped(6, [2]int{5, 5}, [2]int{1, 3}, [2]int{3, 4}, [2]int{4, 1}), 2, 3, 6, 7, 8, 9)
	ringed(t, "the shorter one has it", mapped(6, [2]int{2, 2}, [2]int{3, 4}, [2]int{4, 5}, [2]int{5, 3}), 4, 5)
	ringed(t, "a low place leads to one and another one to it", mapped(5, [2]int{0, 3}, [2]int{3, 4}, [2]int{4, 3}, [2]int{4, 1}, [2]int{2, 3}), 6, 7, 8, 9)
	ringed(t, "one leads to another", mapped(4, [2]int{3, 2}, [2]int{2, 3}, [2]int{2, 1}, [2]int{1, 1}), 2, 3)
}

func TestRoundThroughOneFreeNode(t *testing.T) { // P10.3
	edges := []api.Edge{{Out: 0, In: 1}, {Out: 1, In: 0}}
	across := []api.Conn{{In: 0, Out: 0}, {In: 1, Out: 1}}
	ringed(t, "all ports", api.Graph{Arity: 1, Nodes: []api.Node{free(2, 2, across...)}, Edges: edges}, 0, 2, 1, 3)
	ringed(t, "one port on each side", api.Graph{Arity: 1, Nodes: []api.Node{free(2, 2, append(across, api.Conn{In: 0, Out: 1})...)}, Edges: edges}, 0, 3)
	orderly(t, "connections that don't meet", api.Graph{Arity: 1, Nodes: []api.Node{free(2, 2, across[0])}, Edges: edges}, []int{3, 0, 2, 1}, []int{1, 3, 2, 0})
}

func TestAllConnectionsButOneAreEmpty(t *testing.T) { // P10.1, P10.3, P10.4
	pairs := [][2]int{{0, 1}, {1, 2}, {2, 3}, {3, 0}}
	ringed(t, "all of them", mapped(4, pairs...), 0, 1, 2, 3, 4, 5, 6, 7)
	for at := range 4 {
		g := mapped(4, pairs...)
		g.Nodes[at] = loop(api.Path{A: 1})
		// It begins behind the loop, and its in-place is the last.
		order, ranks := make([]int, 0, 8), make([]int, 8)
		for i := range 8 {
			place := (2*at + 1 + i) % 8
			order, ranks[place] = append(order, place), i
		}
		orderly(t, "all but one", g, order, ranks)
		g.Edges = append(g.Edges, api.Edge{From: (at + 3) % 4, To: (at + 1) % 4})
		low := []int{2, 0, 0, 0}[at]
		ringed(t, "round the loop", g, without(upTo(8), 2*at, 2*at+1, low)...)
	}
}

// without is a list of places, round from the first, with two of them left out.
func without(l []int, a, b, first int) []int {
	l = slices.DeleteFunc(l, func(p int) bool { return p == a || p == b })
	at := slices.Index(l, first)
	return append(slices.Clone(l[at:]), l[:at]...)
}

// crowd is as much as may be: MaxNodes free nodes with all ports and connections, each with two edges to the next one; two edges are left.
func crowd() api.Graph {
	g := api.Graph{Arity: 3}
	var conns []api.Conn
	for i := range api.MaxConns {
		conns = append(conns, api.Conn{In: i % 4, Out: i / 4})
	}
	for i := range api.MaxNodes {
		g.Nodes = append(g.Nodes, free(api.MaxPorts, api.MaxPorts, conns...))
		if i > 0 {
			g.Edges = append(g.Edges, api.Edge{From: i - 1, Out: 1, To: i, In: 2}, api.Edge{From: i - 1, Out: 3, To: i, In: 0})
		}
	}
	return g
}

func TestAsMuchAsMayBe(t *testing.T) { // P10.1 to P10.4, P1
	g := crowd()
	g.Edges = append(g.Edges, api.Edge{From: 0, To: 23, In: 1}, api.Edge{From: 0, To: 23, In: 3})
	var ranks []int
	for i := range api.MaxNodes {
		in, out := 2*i, 2*i+1
		ranks = append(ranks, in, 0, in, 0, out, out, out, out)
	}
	ranks[8*23+1], ranks[8*23+3] = 2, 2
	orderly(t, "all forward", g, upTo(8*api.MaxNodes), ranks)
	g.Edges[46] = api.Edge{From: 23, To: 21, In: 1}
	// Places of the node 21: 168 to 175, of 22: 176 to 183, of 23: 184 to 191.
	ringed(t, "back from the last one", g, 169, 173, 178, 181, 186, 188)
	g.Edges[47] = api.Edge{From: 23, Out: 2, To: 0, In: 3}
	ring := []int{3}
	for i := range api.MaxNodes - 1 {
		ring = append(ring, 8*i+5, 8*i+10)
	}
	ringed(t, "back to the first one", g, append(ring, 190)...)
}

func TestTheLongestEmptyCycle(t *testing.T) { // P10.1 to P10.3
	g, ring := mapped(api.MaxNodes), []int{0, 1}
	for i := range api.MaxNodes {
		g.Edges = append(g.Edges, api.Edge{From: i, To: (i + 1) % api.MaxNodes})
	}
	ringed(t, "all maps", g, upTo(2*api.MaxNodes)...)
	for i, d := range g.Edges {
		g.Edges[i].From, g.Edges[i].To = d.To, d.From
		if at := 2 * (api.MaxNodes - 1 - i); at > 0 {
			ring = append(ring, at, at+1)
		}
	}
	ringed(t, "all maps the other way", g, ring...)
	g.Edges = slices.DeleteFunc(g.Edges, func(d api.Edge) bool { return d.From == 0 })
	order := append(slices.Clone(ring[2:]), 0, 1)
	ranks := make([]int, len(order))
	for i, place := range order {
		ranks[place] = i
	}
	orderly(t, "without one of the edges", g, order, ranks)
	// Through one free node by all its ports: in 0 out 0, in 1 out 1 and so on.
	around := api.Graph{Arity: 1, Nodes: []api.Node{free(4, 4)}}
	for i := range 4 {
		around.Nodes[0].Conns = append(around.Nodes[0].Conns, api.Conn{In: i, Out: i})
		around.Edges = append(around.Edges, api.Edge{Out: i, In: (i + 3) % 4})
	}
	ringed(t, "all ports of a node", around, 0, 4, 3, 7, 2, 6, 1, 5)
}
