package paths

import (
	"math"
	"slices"
	"testing"

	"sluice/api"
	"sluice/graph"
)

const most = math.MaxUint64

func input() api.Node { return api.Node{Kind: api.KInput, Outs: 1} }
func probe() api.Node { return api.Node{Kind: api.KProbe, Ins: 1} }

func join(ins int) api.Node { return api.Node{Kind: api.KJoin, Ins: ins, Outs: 1} }

func loop(by api.Path) api.Node { return api.Node{Kind: api.KLoop, Ins: 1, Outs: 1, By: by} }

func free(ins, outs int, conns ...api.Conn) api.Node {
	return api.Node{Kind: api.KFree, Ins: ins, Outs: outs, Conns: conns}
}

// maps are so many: the places of the map n are 2 n and 2 n + 1.
func maps(many int) []api.Node {
	return slices.Repeat([]api.Node{{Kind: api.KMap, Ins: 1, Outs: 1}}, many)
}

func by(numbers ...uint64) api.Path {
	numbers = append(slices.Clone(numbers), 0, 0, 0)
	return api.Path{A: numbers[0], B: numbers[1], C: numbers[2]}
}

func at(numbers ...uint64) api.Time { return api.Time(by(numbers...)) }

func stamped(place int, numbers ...uint64) api.Stamp {
	return api.Stamp{At: place, T: at(numbers...)}
}

// edges lead from the first port of a node to the first of another one.
func edges(pairs ...[2]int) []api.Edge {
	var l []api.Edge
	for _, p := range pairs {
		l = append(l, api.Edge{From: p[0], To: p[1]})
	}
	return l
}

// round is the graph of the chapter's first example: input 0, join 1 2 3, loop 4 5.
func round() api.Graph {
	return api.Graph{Arity: 2, Nodes: []api.Node{input(), join(2), loop(by(1))}, Edges: []api.Edge{{From: 0, To: 1}, {From: 1, To: 2}, {From: 2, To: 1, In: 1}}}
}

// beside is the graph of the chapter's fifth example: map 0 1, loops 2 3 and 4 5, join 6 7 8.
func beside() api.Graph {
	return api.Graph{Arity: 2, Nodes: []api.Node{maps(1)[0], loop(by(1, 0)), loop(by(0, 1)), join(2)}, Edges: []api.Edge{{From: 0, To: 1}, {From: 0, To: 2}, {From: 1, To: 3}, {From: 2, To: 3, In: 1}}}
}

// doubling is a row of free nodes, the one number i with two connections that add 2^i, at one number and at another: so 2^n least paths from the first place to the last. The places of the node n are 2 n and 2 n + 1.
func doubling(many int) api.Graph {
	g := api.Graph{Arity: 2}
	for i := range many {
		g.Nodes = append(g.Nodes, free(1, 1, api.Conn{By: by(1 << i)}, api.Conn{By: by(0, 1<<i)}))
		if i > 0 {
			g.Edges = append(g.Edges, api.Edge{From: i - 1, To: i})
		}
	}
	return g
}

func made(t *testing.T, what string, g api.Graph) *graph.Graph {
	t.Helper()
	x, e, at := graph.New(g)
	if e != api.OK {
		t.Fatalf("%s: the graph may not be: %d at %d", what, e, at)
	}
	return x
}

func tabled(t *testing.T, what string, g api.Graph) *Table {
	t.Helper()
	x, e := New(made(t, what, g))
	if x == nil || e != api.OK {
		t.Fatalf("%s: New = %v, %d", what, x, e)
	}
	return x
}

func refused(t *testing.T, what string, g api.Graph, want api.Errno) {
	t.Helper()
	if x, e := New(made(t, what, g)); x != nil || e != want {
		t.Errorf("%s: New = %v, %d, want nil, %d", what, x, e, want)
	}
}

func leads(t *testing.T, x *Table, p, q int, want ...api.Path) {
	t.Helper()
	if l := x.Least(p, q); !slices.Equal(l, want) {
		t.Errorf("Least(%d, %d) = %v, want %v", p, q, l, want)
	}
}

func comesTo(t *testing.T, x *Table, p int, want ...int) {
	t.Helper()
	if l := x.To(p); !slices.Equal(l, want) {
		t.Errorf("To(%d) = %v, want %v", p, l, want)
	}
}

func could(t *testing.T, x *Table, a, b api.Stamp, want bool) {
	t.Helper()
	if x.Could(a, b) != want {
		t.Errorf("Could(%v, %v) isn't %v", a, b, want)
	}
}

func fronted(t *testing.T, x *Table, q int, l []api.Stamp, want ...api.Time) {
	t.Helper()
	if got := x.Front(q, l...); !slices.Equal(got, want) {
		t.Errorf("Front(%d, %v) = %v, want %v", q, l, got, want)
	}
}

func TestExampleOfLeastPaths(t *testing.T) { // P11.2
	x := tabled(t, "round", round())
	leads(t, x, 0, 3, by())
	leads(t, x, 0, 5, by(1))
	leads(t, x, 5, 5, by())
	leads(t, x, 3, 2, by(1))
	leads(t, x, 3, 0)
	leads(t, x, 0, 9)
	leads(t, x, -1, 0)
	comesTo(t, x, 4, 2, 3, 4, 5)
	comesTo(t, x, 0, 0, 1, 2, 3, 4, 5)
	if x.Places() != 6 {
		t.Errorf("Places = %d", x.Places())
	}
}

func TestExampleOfWhatCouldResult(t *testing.T) { // P11.3
	x := tabled(t, "round", round())
	could(t, x, stamped(0, 3, 7), stamped(5, 4, 7), true)
	could(t, x, stamped(0, 3, 7), stamped(5, 3, 9), false)
	could(t, x, stamped(5, 4, 0), stamped(3, 4, 0), true)
	could(t, x, stamped(3, 4, 0), stamped(3, 4, 0), true)
	could(t, x, stamped(3, 4, 0), stamped(3, 5, 0), true)
	could(t, x, stamped(3, 5, 0), stamped(3, 4, 9), false)
}

func TestExampleOfNoTime(t *testing.T) { // P11.3, P11.4
	x := tabled(t, "round", round())
	could(t, x, stamped(4, most, 0), stamped(5, most, 5), false)
	fronted(t, x, 2, []api.Stamp{stamped(4, most, 0)})
}

func TestExampleOfFronts(t *testing.T) { // P11.4
	x := tabled(t, "round", round())
	fronted(t, x, 3, []api.Stamp{stamped(0, 2, 5), stamped(5, 3, 1), stamped(1, 4, 0)}, at(2, 5), at(3, 1), at(4, 0))
	fronted(t, x, 3, []api.Stamp{stamped(0, 2, 5), stamped(4, 1, 5)}, at(2, 5))
	fronted(t, x, 3, nil)
}

func TestExampleOfTwoLoopsBesideOneAnother(t *testing.T) { // P11.2
	x := tabled(t, "beside", beside())
	leads(t, x, 1, 8, by(0, 1), by(1, 0))
	leads(t, x, 0, 8, by(0, 1), by(1, 0))
	leads(t, x, 1, 6, by(1, 0))
	leads(t, x, 1, 7, by(0, 1))
}

func TestExampleOfWhatIsRefused(t *testing.T) { // P11.1
	if x, e := New(nil); x != nil || e != api.ErrArg {
		t.Errorf("New(nil) = %v, %d", x, e)
	}
	refused(t, "two maps round", api.Graph{Arity: 1, Nodes: maps(2), Edges: edges([2]int{0, 1}, [2]int{1, 0})}, api.ErrCycle)
}

func TestAnEmptyCycleIsRefused(t *testing.T) { // P11.1
	g := round()
	g.Nodes[2].By = by()
	refused(t, "a loop that adds nothing", g, api.ErrCycle)
	refused(t, "a map to itself", api.Graph{Arity: 1, Nodes: maps(1), Edges: edges([2]int{0, 0})}, api.ErrCycle)
	two := api.Graph{Arity: 1, Nodes: []api.Node{free(1, 1, api.Conn{By: by(1)}, api.Conn{})}, Edges: edges([2]int{0, 0})}
	refused(t, "a free node with another way round", two, api.ErrCycle)
	two.Nodes[0].Conns = two.Nodes[0].Conns[:1]
	tabled(t, "without it", two)
	far := api.Graph{Arity: 1, Nodes: maps(api.MaxNodes), Edges: edges([2]int{22, 23}, [2]int{23, 22})}
	refused(t, "at the last places", far, api.ErrCycle)
}

// wide has 64 least paths from the place 1 to 5, and to 10 one more, if the loop's path is apart from them: map 0 1, free nodes 2 3 and 4 5, loop 6 7, join 8 9 10.
func wide(more api.Path) api.Graph {
	var sixteen, four []api.Conn
	for i := range uint64(16) {
		sixteen = append(sixteen, api.Conn{By: by(i, 15-i)})
	}
	for i := range uint64(4) {
		four = append(four, api.Conn{By: by(16*i, 48-16*i)})
	}
	g := api.Graph{Arity: 3, Nodes: []api.Node{maps(1)[0], free(1, 1, sixteen...), free(1, 1, four...), loop(more), join(2)}}
	g.Edges = append(edges([2]int{0, 1}, [2]int{1, 2}, [2]int{2, 4}, [2]int{0, 3}), api.Edge{From: 3, To: 4, In: 1})
	return g
}

// falling are so many paths, from 0 at one number and the most at the other, on to the other way round.
func falling(many uint64) []api.Path {
	var l []api.Path
	for i := range many {
		l = append(l, by(i, many-1-i))
	}
	return l
}

func TestJustSoManyLeastPathsMayBe(t *testing.T) { // P11.1, P11.2
	x := tabled(t, "a row", doubling(6))
	leads(t, x, 0, 11, falling(64)...)
	leads(t, x, 0, 9, falling(32)...)
	for _, more := range []api.Path{by(63, 0), by(20, 43), by(63, 0, 1), by(21, 43, 0), by(most, most, most), by(0, 63, most)} {
		x := tabled(t, "one that isn't least, or one of them", wide(more))
		leads(t, x, 1, 10, falling(64)...)
		leads(t, x, 0, 5, falling(64)...)
	}
	x = tabled(t, "one that is at or ahead of them all", wide(by()))
	leads(t, x, 1, 10, by())
	leads(t, x, 1, 5, falling(64)...)
	x = tabled(t, "one that is ahead of some", wide(by(40, 0, 0)))
	leads(t, x, 1, 10, append(falling(64)[:40], by(40, 0))...)
}

func TestMoreLeastPathsThanMayBe(t *testing.T) { // P11.1
	for _, more := range []api.Path{by(0, 0, 1), by(0, 0, most), by(10, 10, 1)} {
		refused(t, "one more", wide(more), api.ErrWide)
	}
	for _, many := range []int{7, 8, api.MaxNodes} {
		g := doubling(many)
		refused(t, "twice as many, and more", g, api.ErrWide)
		for i, d := range g.Edges {
			g.Edges[i].From, g.Edges[i].To = d.To, d.From
		}
		refused(t, "from the last node to the first", g, api.ErrWide)
	}
	g := doubling(7)
	g.Edges = slices.Delete(g.Edges, 3, 4)
	tabled(t, "a row that is cut", g)
	g.Edges = append(g.Edges, api.Edge{From: 6, To: 0})
	refused(t, "and goes on at the beginning", g, api.ErrWide)
}

func TestWhichErrorComesFirst(t *testing.T) { // P11.1, P4
	for _, ring := range [][][2]int{{{7, 7}}, {{8, 9}, {9, 8}}} {
		g := doubling(7)
		g.Nodes = append(g.Nodes, maps(3)...)
		refused(t, "too many", g, api.ErrWide)
		g.Edges = append(g.Edges, edges(ring...)...)
		refused(t, "too many, and an empty cycle", g, api.ErrCycle)
	}
	g := wide(by(0, 0, 1))
	g.Nodes[4].Ins = 3
	g.Edges = append(g.Edges, api.Edge{From: 4, To: 4, In: 2})
	refused(t, "an empty cycle behind them", g, api.ErrCycle)
}

func TestAGraphWithoutNodes(t *testing.T) { // P11.1 to P11.4
	for arity := 1; arity <= api.MaxArity; arity++ {
		x := tabled(t, "none", api.Graph{Arity: arity})
		if x.Places() != 0 {
			t.Errorf("Places = %d", x.Places())
		}
		for p := -1; p < 2; p++ {
			leads(t, x, p, p)
			comesTo(t, x, p)
			could(t, x, stamped(p), stamped(p), false)
			fronted(t, x, p, []api.Stamp{stamped(p), stamped(0)})
		}
	}
}

func TestNodesWithoutPlaces(t *testing.T) { // P11.1, P11.2
	x := tabled(t, "free nodes", api.Graph{Arity: 1, Nodes: []api.Node{free(0, 0), free(0, 0), input(), free(0, 0)}})
	if x.Places() != 1 {
		t.Errorf("Places = %d", x.Places())
	}
	leads(t, x, 0, 0, by())
	comesTo(t, x, 0, 0)
}

func TestNumbersThatAreNoPlaces(t *testing.T) { // P11.2 to P11.4
	x := tabled(t, "round", round())
	for _, none := range []int{-1, -2, -6, 6, 7, 99, math.MinInt, math.MaxInt, 1 << 32, -1 << 32} {
		leads(t, x, none, none)
		comesTo(t, x, none)
		could(t, x, stamped(none), stamped(none), false)
		fronted(t, x, none, []api.Stamp{stamped(none), stamped(0), stamped(5)})
		fronted(t, x, 0, []api.Stamp{stamped(none)})
		for p := range x.Places() {
			leads(t, x, none, p)
			leads(t, x, p, none)
			could(t, x, stamped(p), stamped(none, most, most), false)
			could(t, x, stamped(none), stamped(p, most, most), false)
			fronted(t, x, p, []api.Stamp{stamped(none, 0, 0), stamped(p, 8, 3), stamped(none, 9, 1)}, at(8, 3))
		}
	}
}

func TestFromAPlaceToItself(t *testing.T) { // P11.2
	// Loops round to themselves, a free node with two ways round, and the same in a greater ring.
	for _, g := range []api.Graph{
		round(), beside(), doubling(5),
		{Arity: 1, Nodes: []api.Node{loop(by(1))}, Edges: edges([2]int{0, 0})},
		{Arity: 1, Nodes: []api.Node{loop(by(most))}, Edges: edges([2]int{0, 0})},
		{Arity: 2, Nodes: []api.Node{free(1, 1, api.Conn{By: by(1, 0)}, api.Conn{By: by(0, 1)})}, Edges: edges([2]int{0, 0})},
		{Arity: 3, Nodes: []api.Node{loop(by(0, 0, 1)), loop(by(0, 1)), loop(by(1))}, Edges: edges([2]int{0, 1}, [2]int{1, 2}, [2]int{2, 0}, [2]int{0, 0}, [2]int{1, 1}, [2]int{2, 2})},
	} {
		x := tabled(t, "round", g)
		for p := range x.Places() {
			leads(t, x, p, p, by())
			could(t, x, stamped(p, 4), stamped(p, 4), true)
			fronted(t, x, p, []api.Stamp{stamped(p, most, most, most)}, at(most, most, most))
			if !slices.Contains(x.To(p), p) {
				t.Errorf("To(%d) = %v, without the place itself", p, x.To(p))
			}
		}
	}
}

func TestHowOftenRound(t *testing.T) { // P11.2
	// Input 0, join 1 2 3, loop 4 5, probe 6: nothing is gained by going round again.
	g := round()
	g.Nodes = append(g.Nodes, probe())
	g.Edges = append(g.Edges, api.Edge{From: 2, To: 3})
	x := tabled(t, "round", g)
	leads(t, x, 0, 6, by(1))
	leads(t, x, 5, 6, by())
	leads(t, x, 5, 4, by())
	leads(t, x, 4, 3, by(1))
	leads(t, x, 6, 6, by())
	comesTo(t, x, 6, 6)
	comesTo(t, x, 5, 2, 3, 4, 5, 6)
}

func TestEveryKindLeadsThrough(t *testing.T) { // P11.2
	for _, kind := range []int{api.KMap, api.KFilter, api.KSum} {
		g := api.Graph{Arity: 1, Nodes: []api.Node{input(), {Kind: kind, Ins: 1, Outs: 1}, probe()}, Edges: edges([2]int{0, 1}, [2]int{1, 2})}
		g.Edges[0].Keyed = true
		x := tabled(t, "a row", g)
		leads(t, x, 0, 3, by())
		leads(t, x, 1, 2, by())
		leads(t, x, 2, 1)
		comesTo(t, x, 0, 0, 1, 2, 3)
		comesTo(t, x, 2, 2, 3)
	}
	// Join 0 1 2 3 4, free 5 6 7 8: nothing leads from the free node's second in-place, nothing to its second out-place.
	x := tabled(t, "join and free", api.Graph{Arity: 3, Nodes: []api.Node{join(4), free(2, 2, api.Conn{By: by(3, 0, 2)})}, Edges: []api.Edge{{From: 0, To: 1}, {From: 0, To: 1, In: 1}}})
	for p := range 4 {
		leads(t, x, p, 4, by())
		leads(t, x, p, 7, by(3, 0, 2))
		comesTo(t, x, p, p, 4, 5, 6, 7)
	}
	comesTo(t, x, 6, 6)
	comesTo(t, x, 8, 8)
	leads(t, x, 6, 7)
	leads(t, x, 5, 8)
}

func TestABoundPlaysNoPart(t *testing.T) { // P11.2
	for _, bound := range []uint64{0, 1, api.MaxBound} {
		g := round()
		g.Nodes[2].By, g.Nodes[2].Bound = by(100), bound
		x := tabled(t, "round", g)
		leads(t, x, 4, 3, by(100))
		could(t, x, stamped(4, 1000), stamped(3, 1100), true)
	}
}

func TestTheLeastOfSeveralWays(t *testing.T) { // P11.2
	// One free node 0 1 with all its connections, those that aren't least among them.
	var conns []api.Conn
	for _, p := range []api.Path{by(5, 0, 0), by(4, 4, 4), by(0, 5, 0), by(2, 2, 2), by(0, 0, 5), by(2, 2, 3), by(0, 6, 0), by(1, 3, 0), by(3, 1, 0), by(5, 0, 1), by(most, 0, 0), by(1, 3, 1)} {
		conns = append(conns, api.Conn{By: p})
	}
	want := []api.Path{by(0, 0, 5), by(0, 5, 0), by(1, 3, 0), by(2, 2, 2), by(3, 1, 0), by(5, 0, 0)}
	for range conns {
		conns = append(conns[1:], conns[0])
		x := tabled(t, "one node", api.Graph{Arity: 3, Nodes: []api.Node{free(1, 1, conns...)}})
		leads(t, x, 0, 1, want...)
	}
}

func TestALongWayThatIsLess(t *testing.T) { // P11.2
	// From the map 0 1 at once to the join by a loop that adds 9, or by three that add 1 each, at the same number or at others: loops 2 3, 4 5, 6 7, 8 9, join 10 11 12.
	ways := func(a, b, c api.Path) api.Graph {
		g := api.Graph{Arity: 3, Nodes: []api.Node{maps(1)[0], loop(by(9)), loop(a), loop(b), loop(c), join(2)}}
		g.Edges = append(edges([2]int{0, 1}, [2]int{1, 5}, [2]int{0, 2}, [2]int{2, 3}, [2]int{3, 4}), api.Edge{From: 4, To: 5, In: 1})
		return g
	}
	x := tabled(t, "at the same number", ways(by(1), by(1), by(1)))
	leads(t, x, 0, 12, by(3))
	x = tabled(t, "at the same number, and just as much", ways(by(4), by(4), by(1)))
	leads(t, x, 0, 12, by(9))
	x = tabled(t, "and more", ways(by(4), by(4), by(2)))
	leads(t, x, 0, 12, by(9))
	x = tabled(t, "at others", ways(by(1), by(0, 1), by(0, 0, 1)))
	leads(t, x, 0, 12, by(1, 1, 1), by(9))
	x = tabled(t, "at others alone", ways(by(0, most), by(), by(0, 0, most)))
	leads(t, x, 0, 12, by(0, most, most), by(9))
	x = tabled(t, "at others, and more", ways(by(9), by(0, 1), by(0, 0, 1)))
	leads(t, x, 0, 12, by(9))
}

func TestPathsThatAreNone(t *testing.T) { // P11.2, P11.3
	// Loops 0 1, 2 3 and 4 5 in a row.
	row := func(a, b, c api.Path) *Table {
		return tabled(t, "a row", api.Graph{Arity: 3, Nodes: []api.Node{loop(a), loop(b), loop(c)}, Edges: edges([2]int{0, 1}, [2]int{1, 2})})
	}
	x := row(by(most), by(1), by())
	leads(t, x, 0, 2, by(most))
	leads(t, x, 0, 3)
	leads(t, x, 0, 5)
	leads(t, x, 1, 5, by(1))
	comesTo(t, x, 0, 0, 1, 2)
	comesTo(t, x, 1, 1, 2, 3, 4, 5)
	could(t, x, stamped(0), stamped(3, most, most, most), false)
	could(t, x, stamped(0), stamped(2, most), true)
	could(t, x, stamped(0, 1), stamped(2, most, most, most), false)
	x = row(by(most-1), by(1), by(0, most, 1<<63))
	leads(t, x, 0, 5, by(most, most, 1<<63))
	for _, big := range []api.Path{by(1 << 63), by(0, 1<<63), by(0, 0, 1<<63)} {
		x = row(big, by(0), big)
		leads(t, x, 0, 4, big)
		leads(t, x, 0, 5)
		leads(t, x, 2, 5, big)
	}
	x = row(by(most), by(0, most), by(0, 0, most))
	leads(t, x, 0, 5, by(most, most, most))
	could(t, x, stamped(0), stamped(5, most, most, most), true)
	could(t, x, stamped(0), stamped(5, most, most, most-1), false)
	// One way is none, the other one is not.
	g := wide(by(7))
	g.Nodes[1].Conns, g.Nodes[2].Conns = []api.Conn{{By: by(0, most)}}, []api.Conn{{By: by(0, 1)}}
	x = tabled(t, "one of two ways", g)
	leads(t, x, 1, 10, by(7))
	leads(t, x, 1, 5)
	comesTo(t, x, 0, 0, 1, 2, 3, 4, 6, 7, 9, 10)
}

func TestSumsThatAreNoTimes(t *testing.T) { // P11.3, P11.4
	x := tabled(t, "beside", beside())
	could(t, x, stamped(1, most, 0), stamped(8, most, 1), true)
	could(t, x, stamped(1, most, 0), stamped(8, most, 0), false)
	could(t, x, stamped(1, most, most), stamped(8, most, most), false)
	fronted(t, x, 8, []api.Stamp{stamped(1, most, 0)}, at(most, 1))
	fronted(t, x, 8, []api.Stamp{stamped(1, 0, most)}, at(1, most))
	fronted(t, x, 8, []api.Stamp{stamped(1, most, most)})
	fronted(t, x, 8, []api.Stamp{stamped(1, most, most), stamped(3, most, most)}, at(most, most))
	fronted(t, x, 8, []api.Stamp{stamped(1, most-1, most-1)}, at(most-1, most), at(most, most-1))
	// By 2^63 twice would be the least time again, if it came round.
	y := tabled(t, "half round", api.Graph{Arity: 1, Nodes: []api.Node{loop(by(1 << 63))}})
	could(t, y, stamped(0, 1<<63), stamped(1), false)
	could(t, y, stamped(0, 1<<63), stamped(1, most), false)
	could(t, y, stamped(0, 1<<63-1), stamped(1, most), true)
	fronted(t, y, 1, []api.Stamp{stamped(0, 1<<63)})
}

func TestTimesThatDontFitTheArity(t *testing.T) { // P11.3, P11.4
	x := tabled(t, "arity 1", api.Graph{Arity: 1, Nodes: []api.Node{loop(by(2)), probe()}, Edges: edges([2]int{0, 1})})
	could(t, x, stamped(0, 1, 5, 6), stamped(2, 3, 5, 6), true)
	could(t, x, stamped(0, 1, 5, 6), stamped(2, 3, 5, 5), false)
	could(t, x, stamped(0, 1, 5, 6), stamped(2, 9, 4, 6), false)
	could(t, x, stamped(0, 1, 5, 6), stamped(2, 9), false)
	could(t, x, stamped(1, 1), stamped(2, 1, 5, 6), true)
	could(t, x, stamped(1, 1, most, most), stamped(2, 1, most, most), true)
	fronted(t, x, 2, []api.Stamp{stamped(0, 1, 5, 6)}, at(3, 5, 6))
	fronted(t, x, 2, []api.Stamp{stamped(0, 1, 5, 6), stamped(1, 4)}, at(3, 5, 6), at(4))
	fronted(t, x, 2, []api.Stamp{stamped(0, 1, 5, 6), stamped(1, 3)}, at(3))
	fronted(t, x, 2, []api.Stamp{stamped(1, 0, 0, most), stamped(1, 0, most), stamped(2, 7)}, at(0, 0, most), at(0, most), at(7))
	y := tabled(t, "arity 2", round())
	could(t, y, stamped(4, 1, 1, 1), stamped(5, 2, 1, 1), true)
	could(t, y, stamped(4, 1, 1, 1), stamped(5, 2, 1, 0), false)
	fronted(t, y, 5, []api.Stamp{stamped(4, 1, 1, 2), stamped(4, 1, 1, 1), stamped(3, 1, 0, 3)}, at(2, 0, 3), at(2, 1, 1))
}

func TestFrontOfAnyStamps(t *testing.T) { // P11.4
	x := tabled(t, "round", round())
	for q := range x.Places() {
		fronted(t, x, q, nil)
		fronted(t, x, q, []api.Stamp{})
	}
	fronted(t, x, 3, []api.Stamp{stamped(0, 2, 5), stamped(0, 2, 5), stamped(0, 2, 5)}, at(2, 5))
	fronted(t, x, 3, []api.Stamp{stamped(-1), stamped(0, 2, 5), stamped(6), stamped(0, 2, 5), stamped(math.MaxInt), stamped(math.MinInt)}, at(2, 5))
	fronted(t, x, 3, []api.Stamp{stamped(-1), stamped(6)})
	fronted(t, x, 0, []api.Stamp{stamped(1), stamped(3), stamped(5)})
	fronted(t, x, 0, []api.Stamp{stamped(0, 4, 4), stamped(3), stamped(0, 3, 5), stamped(0, 4, 5)}, at(3, 5), at(4, 4))
	fronted(t, x, 5, []api.Stamp{stamped(0, 4, 4), stamped(3, 5, 3), stamped(5, 5, 5)}, at(5, 4), at(6, 3))
	fronted(t, x, 5, []api.Stamp{stamped(5, 6, 3), stamped(3, 5, 3), stamped(0, 5, 3)}, at(6, 3))
	// The same time from two places, and one behind the other.
	fronted(t, x, 3, []api.Stamp{stamped(1, 1, 1), stamped(2, 1, 1)}, at(1, 1))
	fronted(t, x, 3, []api.Stamp{stamped(1, 9, 9), stamped(1, 8, 8), stamped(1, 7, 7)}, at(7, 7))
	fronted(t, x, 3, []api.Stamp{stamped(1, 7, 7), stamped(1, 8, 8), stamped(1, 9, 9)}, at(7, 7))
}

func TestFrontOfAStampByManyPaths(t *testing.T) { // P11.4
	x := tabled(t, "a row", doubling(6))
	var want []api.Time
	for _, p := range falling(64) {
		want = append(want, at(10+p.A, 20+p.B))
	}
	fronted(t, x, 11, []api.Stamp{stamped(0, 10, 20)}, want...)
	fronted(t, x, 11, []api.Stamp{stamped(0, 10, 20), stamped(11, 9, 30)}, append([]api.Time{at(9, 30)}, want[54:]...)...)
	fronted(t, x, 11, []api.Stamp{stamped(0, 10, 20), stamped(11, 10, 20)}, at(10, 20))
}

func TestAsMuchAsMayBe(t *testing.T) { // P11.1, P11.2, P1
	// All nodes with all ports and connections, each with two edges to the next one, and the last one round to the first: 2 edges a node. The places of the node n are 8 n to 8 n + 7.
	g := api.Graph{Arity: 3}
	for i := range api.MaxNodes {
		var conns []api.Conn
		for c := range uint64(api.MaxConns) {
			conns = append(conns, api.Conn{In: int(c % 4), Out: int(c / 4), By: by(1, c%4/2, 0)})
		}
		g.Nodes = append(g.Nodes, free(api.MaxPorts, api.MaxPorts, conns...))
		g.Edges = append(g.Edges, api.Edge{From: i, Out: 1, To: (i + 1) % api.MaxNodes, In: 2}, api.Edge{From: i, Out: 3, To: (i + 1) % api.MaxNodes, In: 1})
	}
	if len(g.Edges) != api.MaxEdges {
		t.Fatalf("%d edges", len(g.Edges))
	}
	x := tabled(t, "crowd", g)
	if x.Places() != 8*api.MaxNodes {
		t.Fatalf("Places = %d", x.Places())
	}
	// Into each node by its in-port 1 adds 1 0, by its in-port 2 it adds 1 1, which is never less.
	for i := range uint64(api.MaxNodes) {
		leads(t, x, 0, 8*int(i)+4, by(i+1))
		leads(t, x, 3, 8*int(i)+7, by(i+1, 1))
		leads(t, x, 5, 8*int(i)+5, by(i, min(i, 1)))
		leads(t, x, 7, 8*int(i)+7, by(i))
	}
	for p := range x.Places() {
		leads(t, x, p, p, by())
		// No edge leads into the in-ports 0 and 3; all other places are come to.
		var to []int
		for q := range x.Places() {
			if q%8 != 0 && q%8 != 3 || q == p {
				to = append(to, q)
			}
		}
		if odd := p%8 == 4 || p%8 == 6; odd {
			to = []int{p} // no edge leads on from there
		}
		comesTo(t, x, p, to...)
	}
}
