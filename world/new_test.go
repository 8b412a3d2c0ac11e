package world

import (
	"math"
	"reflect"
	"slices"
	"testing"

	"sluice/api"
	"sluice/draws"
)

// standing is a graph with a cycle that doesn't advance, behind some nodes.
func standing(l ...api.Node) api.Graph {
	g := nodes(append(slices.Clip(l), join(1), mapper())...)
	many := len(g.Nodes)
	g.Edges = []api.Edge{edge(many-2, many-1), edge(many-1, many-2)}
	return g
}

// doubling is a row of free nodes, the one number i with two connections that add 2^i, at one number and at another: so 2^n least paths from the first place to the last.
func doubling(many int, behind ...api.Node) api.Graph {
	g := api.Graph{Arity: 2}
	for i := range many {
		g.Nodes = append(g.Nodes, free(false, 1, 1, api.Conn{By: by(1 << i)}, api.Conn{By: by(0, 1<<i)}))
		if i > 0 {
			g.Edges = append(g.Edges, edge(i-1, i))
		}
	}
	g.Nodes = append(g.Nodes, behind...)
	return g
}

// with is a graph with one more edge.
func with(g api.Graph, d api.Edge) api.Graph {
	g.Edges = append(slices.Clip(g.Edges), d)
	return g
}

func refusedNew(t *testing.T, what string, g api.Graph, workers int, e api.Errno, at int) {
	t.Helper()
	if w, f, n := New(g, workers); w != nil || f != e || n != at {
		t.Errorf("%s: New = %v, %d, %d, want %d, %d", what, w, f, n, e, at)
	}
}

func TestNewOfAGraphThatMayNotBe(t *testing.T) { // P26.1, P4: graph.New's error, with its number, ahead of all others
	bad := mapper(api.Op{Kind: 99})
	long := slices.Repeat([]api.Op{{Kind: 1}}, api.MaxCode+1)
	conns := slices.Repeat([]api.Conn{{}}, api.MaxConns+1)
	edges := summed()
	edges.Edges = slices.Repeat(edges.Edges, 30)
	none := standing(bad, input())
	none.Arity = 0
	keyless := row(bad, sum())
	keyless.Edges[0].Keyed = false
	for _, c := range []struct {
		what string
		g    api.Graph
		e    api.Errno
		at   int
	}{
		{"nothing", api.Graph{}, api.ErrArity, 0},
		{"no arity, a code, a cycle", none, api.ErrArity, 0},
		{"an arity above", api.Graph{Arity: 4}, api.ErrArity, 0},
		{"nodes", nodes(slices.Repeat([]api.Node{bad}, api.MaxNodes+1)...), api.ErrLong, 0},
		{"edges", edges, api.ErrLong, 0},
		{"a kind, behind a code", nodes(bad, input(), api.Node{Kind: 9}), api.ErrKind, 2},
		{"no kind", nodes(input(), api.Node{}), api.ErrKind, 1},
		{"ports", nodes(bad, join(5)), api.ErrPorts, 1},
		{"a field", nodes(input(), sum(), bad, api.Node{Kind: api.KProbe, Ins: 1, Start: true}), api.ErrField, 3},
		{"a By", nodes(bad, loop(by(0, 1), 1)), api.ErrField, 1},
		{"a Bound", nodes(loop(by(1), api.MaxBound+1), bad), api.ErrField, 0},
		{"too many instructions", nodes(bad, input(), filter(long...)), api.ErrCode, 2},
		{"connections", nodes(bad, free(true, 1, 1, conns...)), api.ErrConn, 1},
		{"a connection from nowhere", nodes(bad, free(true, 1, 1, api.Conn{In: 1})), api.ErrConn, 1},
		{"an edge", with(summed(), edge(0, 3)), api.ErrEdge, 5},
		{"an edge, and a code, and a cycle", with(standing(bad), edge(7, 0)), api.ErrEdge, 5},
		{"an edge twice", with(summed(), keyed(0, 1)), api.ErrEdge, 5},
		{"an edge without keys", keyless, api.ErrKeyed, 2},
	} {
		for _, workers := range []int{1, 8, 0, 9} {
			refusedNew(t, c.what, c.g, workers, c.e, c.at)
		}
	}
}

func TestNewOfCodeThatMayNotBe(t *testing.T) { // P26.1, P4: with the node's number, behind the graph's own error and ahead of the others
	badMap, badFilter := mapper(api.Op{Kind: 1}, api.Op{Kind: 3}), filter(api.Op{Kind: 1})
	goodMap, goodFilter := mapper(api.Op{Kind: 3, Arg: 1}), filter(api.Op{Kind: 21})
	for _, c := range []struct {
		what string
		g    api.Graph
		at   int
	}{
		{"a map, the first node", nodes(badMap, input()), 0},
		{"a filter, the first node", nodes(badFilter), 0},
		{"a later node", nodes(input(), goodMap, badFilter, goodFilter), 2},
		{"the last node", nodes(input(), sum(), trap(), free(true, 1, 1), goodFilter, badMap), 5},
		{"two of them", nodes(input(), badMap, badFilter), 1},
		{"two of them, the other way round", nodes(input(), sum(), badFilter, goodMap, badMap), 2},
		{"a map with a filter's", nodes(goodMap, mapper(api.Op{Kind: 21})), 1},
		{"a map with an Arg that it may not have", nodes(goodMap, mapper(api.Op{Kind: 7, Arg: 1})), 1},
		{"and a cycle", standing(input(), badMap), 1},
		{"and too many least paths", doubling(7, input(), badFilter), 8},
		{"the last of as many nodes as may be", nodes(append(slices.Repeat([]api.Node{goodMap}, api.MaxNodes-1), badMap)...), 23},
	} {
		for _, workers := range []int{1, 8, 0, 9, -1} {
			refusedNew(t, c.what, c.g, workers, api.ErrCode, c.at)
		}
	}
}

func TestNewOfWorkersThatMayNotBe(t *testing.T) { // P26.1, P4: ahead of cycles and least paths
	for _, g := range []api.Graph{summed(), {Arity: 2}, standing(), doubling(7)} {
		for _, workers := range []int{0, 9, -1, 10, math.MaxInt, math.MinInt} {
			refusedNew(t, "workers", g, workers, api.ErrWorker, 0)
		}
	}
	for workers := 1; workers <= api.MaxWorkers; workers++ {
		refusedNew(t, "a cycle", standing(input(), trap()), workers, api.ErrCycle, 0)
		refusedNew(t, "too many least paths", doubling(7), workers, api.ErrWide, 0)
		both := doubling(7, mapper())
		both.Edges = append(both.Edges, edge(7, 7))
		refusedNew(t, "both", both, workers, api.ErrCycle, 0)
		begin(t, doubling(6), workers)
	}
}

func TestNewOfAllWorkers(t *testing.T) { // P26.1, P26.5
	raw := nodes(input(), trap(), input(), free(true, 1, 2), free(false, 1, 2), sum())
	for workers := 1; workers <= api.MaxWorkers; workers++ {
		w := begin(t, raw, workers)
		number(t, "Workers", w.Workers(), workers)
		// Roomy makes lists without elements alike, nil or not.
		if g := w.Graph(); g == nil || !reflect.DeepEqual(draws.Roomy(g.Raw()), draws.Roomy(raw)) || g.Places() != 11 {
			t.Errorf("Graph: %v", g)
		}
		n := int64(workers)
		first := []api.Change{ch(0, n, 0), ch(2, n, 0), ch(4, n, 0), ch(5, n, 0)}
		tokens(t, w, first...)
		number(t, "outstanding", w.Outstanding(), 0)
		for self := range workers {
			counts(t, w, self, first...)
			is(t, "Held", w.Held(self), held(1, 4, 0), held(2, 5, 0))
			for node, input := range []bool{true, false, true, false, false, false} {
				if epoch, open := w.Epoch(self, node); epoch != at() || open != input {
					t.Errorf("Epoch(%d, %d) = %v, %v", self, node, epoch, open)
				}
			}
			for place := range 11 {
				number(t, "waiting", w.Waiting(self, place), 0)
			}
			for to := range workers {
				onLink(t, w, self, to, 0, 0)
			}
		}
		catches(t, w, 1)
		safe(t, w)
		for self := range workers {
			does(t, w, step(self))
		}
	}
}

func TestNewOfManyGraphs(t *testing.T) { // P26.1: it is refused just where it is said to be
	var often [3]int
	for seed := range uint64(300) {
		next := draws.Numbers(seed)
		raw := draws.Coded(next, draws.Graph(next, 9, 16))
		w, e, at := New(raw, 1+next(8))
		if at != 0 || (w == nil) != (e != api.OK) {
			t.Fatalf("seed %d: New = %v, %d, %d", seed, w, e, at)
		}
		switch e {
		case api.OK:
			often[0]++
			tokens(t, w, plainOf(raw, w.Workers()).tokens()...)
			for self := range w.Workers() {
				counts(t, w, self, w.Tokens()...)
			}
		case api.ErrCycle:
			often[1]++
		case api.ErrWide:
			often[2]++
		default:
			t.Fatalf("seed %d: %d: %v", seed, e, raw)
		}
	}
	if often[0] < 50 || often[1] < 50 {
		t.Errorf("drawn: %v", often)
	}
}

func TestAGraphWithoutNodes(t *testing.T) { // P26.1, P26.2
	for workers := 1; workers <= api.MaxWorkers; workers++ {
		w := begin(t, api.Graph{Arity: 2}, workers)
		for self := range workers {
			does(t, w, step(self))
			for _, a := range []Act{send(self, 0, at(), rec(0, 0)), advance(self, 0, at()), shut(self, 0), run(self, 0)} {
				refuses(t, w, a, api.ErrNode)
			}
			refuses(t, w, take(self, 0), api.ErrPlace)
			refuses(t, w, drop(self, 1), api.ErrCap)
			refuses(t, w, hear(self, (self+1)%workers), map[bool]api.Errno{true: api.ErrWorker, false: api.ErrEmpty}[workers == 1])
		}
		tokens(t, w)
	}
}
