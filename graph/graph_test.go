package graph

import (
	"math"
	"slices"
	"testing"

	"sluice/api"
)

// kinds are all there are, each with the fewest ports and no fields.
func kinds() []api.Node {
	return []api.Node{
		{Kind: api.KInput, Outs: 1},
		{Kind: api.KMap, Ins: 1, Outs: 1},
		{Kind: api.KFilter, Ins: 1, Outs: 1},
		{Kind: api.KJoin, Ins: 1, Outs: 1},
		{Kind: api.KLoop, Ins: 1, Outs: 1},
		{Kind: api.KSum, Ins: 1, Outs: 1},
		{Kind: api.KProbe, Ins: 1},
		{Kind: api.KFree},
	}
}

// counted is the graph of the chapter's first example.
func counted() api.Graph {
	return api.Graph{
		Arity: 1,
		Nodes: []api.Node{{Kind: api.KInput, Outs: 1}, {Kind: api.KSum, Ins: 1, Outs: 1}, {Kind: api.KProbe, Ins: 1}},
		Edges: []api.Edge{{From: 0, Out: 0, To: 1, In: 0, Keyed: true}, {From: 1, Out: 0, To: 2, In: 0}},
	}
}

// frees are so many free nodes with all the ports that may be.
func frees(many int) []api.Node {
	return slices.Repeat([]api.Node{{Kind: api.KFree, Ins: api.MaxPorts, Outs: api.MaxPorts}}, many)
}

// apart are so many edges from the first of those, no two the same.
func apart(many int) []api.Edge {
	var l []api.Edge
	for i := range many {
		l = append(l, api.Edge{From: 0, Out: i % 4, In: i / 4 % 4, To: i / 16})
	}
	return l
}

// holed are so many connections of one of those, no two the same.
func holed(many int) []api.Conn {
	var l []api.Conn
	for i := range many {
		l = append(l, api.Conn{In: i % 4, Out: i / 4 % 4, By: api.Path{A: uint64(i / 16)}})
	}
	return l
}

// ask holds New to an answer.
func ask(t *testing.T, what string, g api.Graph, e api.Errno, at int) *Graph {
	t.Helper()
	made, f, where := New(g)
	if f != e || where != at || (made == nil) != (e != api.OK) {
		t.Errorf("%s: %d at %d, want %d at %d", what, f, where, e, at)
	}
	return made
}

// one is a graph of one node behind a probe, so that the fault stands at 1.
func one(arity int, n api.Node) api.Graph {
	return api.Graph{Arity: arity, Nodes: []api.Node{{Kind: api.KProbe, Ins: 1}, n}}
}

// of holds New to an answer of a graph of one node behind a probe.
func of(t *testing.T, what string, arity int, n api.Node, e api.Errno) {
	t.Helper()
	at := 0
	if e != api.OK {
		at = 1
	}
	ask(t, what, one(arity, n), e, at)
}

func TestTheFirstExample(t *testing.T) { // P9.1 to P9.5
	g := ask(t, "example 1", counted(), api.OK, 0)
	if g.Places() != 4 || g.Out(0, 0) != 0 || g.In(1, 0) != 1 || g.Out(1, 0) != 2 || g.In(2, 0) != 3 {
		t.Error("other places")
	}
	if node, port, in := g.Of(2); node != 1 || port != 0 || in {
		t.Errorf("Of(2) = %d, %d, %v", node, port, in)
	}
	for place, want := range map[int][]int{0: {0}, 1: {0}, 2: {1}, 3: {1}, 9: nil} {
		if l := slices.Collect(g.Edges(place)); !slices.Equal(l, want) {
			t.Errorf("Edges(%d) gives %v, want %v", place, l, want)
		}
	}
	if l := g.Conns(1); !slices.Equal(l, []api.Conn{{}}) {
		t.Errorf("Conns(1) = %v", l)
	}
}

func TestTheSecondExample(t *testing.T) { // P9.1
	for _, c := range []struct {
		what string
		turn func(*api.Graph)
		e    api.Errno
		at   int
	}{
		{"not keyed", func(g *api.Graph) { g.Edges[0].Keyed = false }, api.ErrKeyed, 3},
		{"twice", func(g *api.Graph) { g.Edges = slices.Insert(g.Edges, 0, g.Edges[0]) }, api.ErrEdge, 4},
		{"arity 0", func(g *api.Graph) { g.Arity = 0 }, api.ErrArity, 0},
		{"kind 9", func(g *api.Graph) { g.Nodes = append(g.Nodes, api.Node{Kind: 9}) }, api.ErrKind, 3},
		{"a probe with an out-port", func(g *api.Graph) { g.Nodes[2].Outs = 1 }, api.ErrPorts, 2},
	} {
		g := counted()
		c.turn(&g)
		ask(t, c.what, g, c.e, c.at)
	}
}

func TestTheThirdExample(t *testing.T) { // P9.1
	loop := api.Node{Kind: api.KLoop, Ins: 1, Outs: 1, By: api.Path{B: 1}}
	of(t, "a loop", 1, loop, api.ErrField)
	of(t, "a loop", 2, loop, api.OK)
	of(t, "a map with Start", 1, api.Node{Kind: api.KMap, Ins: 1, Outs: 1, Start: true}, api.ErrField)
	free := func(l ...api.Conn) api.Node { return api.Node{Kind: api.KFree, Ins: 2, Outs: 1, Conns: l} }
	first, second, third := api.Conn{By: api.Path{A: 1}}, api.Conn{}, api.Conn{In: 1}
	of(t, "a free node", 1, free(first, second, third), api.OK)
	of(t, "a free node", 1, free(first, second, third, api.Conn{In: 2}), api.ErrConn)
	of(t, "a free node", 1, free(first, second, third, third), api.ErrConn)
}

func TestArity(t *testing.T) { // P9.1
	for arity, e := range map[int]api.Errno{
		math.MinInt: api.ErrArity, -1: api.ErrArity, 0: api.ErrArity, 1: api.OK, 2: api.OK, 3: api.OK, 4: api.ErrArity, math.MaxInt: api.ErrArity,
	} {
		g := ask(t, "no nodes", api.Graph{Arity: arity}, e, 0)
		if e == api.OK && (g.Arity() != arity || g.Nodes() != 0 || g.Places() != 0) {
			t.Errorf("arity %d: %d, %d nodes, %d places", arity, g.Arity(), g.Nodes(), g.Places())
		}
	}
}

func TestHowManyNodesAndEdges(t *testing.T) { // P9.1
	g := ask(t, "MaxNodes", api.Graph{Arity: 1, Nodes: frees(api.MaxNodes)}, api.OK, 0)
	if g.Nodes() != api.MaxNodes || g.Places() != 8*api.MaxNodes {
		t.Errorf("%d nodes, %d places", g.Nodes(), g.Places())
	}
	ask(t, "a node more", api.Graph{Arity: 1, Nodes: frees(api.MaxNodes + 1)}, api.ErrLong, 0)
	g = ask(t, "MaxEdges", api.Graph{Arity: 1, Nodes: frees(4), Edges: apart(api.MaxEdges)}, api.OK, 0)
	if n := len(g.Raw().Edges); n != api.MaxEdges {
		t.Errorf("%d edges", n)
	}
	ask(t, "an edge more", api.Graph{Arity: 1, Nodes: frees(4), Edges: apart(api.MaxEdges + 1)}, api.ErrLong, 0)
	ask(t, "edges without nodes", api.Graph{Arity: 1, Edges: make([]api.Edge, api.MaxEdges+1)}, api.ErrLong, 0)
	ask(t, "both all there may be", api.Graph{Arity: 1, Nodes: frees(api.MaxNodes), Edges: apart(api.MaxEdges)}, api.OK, 0)
}

func TestNoSuchKind(t *testing.T) { // P9.1
	for _, kind := range []int{math.MinInt, -1, 0, 9, 10, 1 << 32, 1<<32 + 1, math.MaxInt} {
		of(t, "kind", 3, api.Node{Kind: kind}, api.ErrKind)
		of(t, "kind", 3, api.Node{Kind: kind, Ins: 1, Outs: 1}, api.ErrKind)
	}
	for _, n := range kinds() {
		of(t, "kind", 3, n, api.OK)
	}
}

func TestPortsOfEachKind(t *testing.T) { // P9.1
	type span struct{ least, most int }
	for kind, may := range map[int][2]span{
		api.KInput: {{0, 0}, {1, 1}}, api.KMap: {{1, 1}, {1, 1}}, api.KFilter: {{1, 1}, {1, 1}}, api.KJoin: {{1, 4}, {1, 1}},
		api.KLoop: {{1, 1}, {1, 1}}, api.KSum: {{1, 1}, {1, 1}}, api.KProbe: {{1, 1}, {0, 0}}, api.KFree: {{0, 4}, {0, 4}},
	} {
		many := []int{math.MinInt, -1, 0, 1, 2, 3, 4, 5, 1 << 32, 1<<32 + 1, math.MaxInt}
		for _, ins := range many {
			for _, outs := range many {
				e := api.ErrPorts
				if ins >= may[0].least && ins <= may[0].most && outs >= may[1].least && outs <= may[1].most {
					e = api.OK
				}
				of(t, "ports", 1, api.Node{Kind: kind, Ins: ins, Outs: outs}, e)
			}
		}
	}
}

func TestFieldsOfEachKind(t *testing.T) { // P9.1
	type field struct {
		name string
		fill func(*api.Node)
	}
	code := field{"Code", func(n *api.Node) { n.Code = make([]api.Op, 1) }}
	byA := field{"By.A", func(n *api.Node) { n.By.A = 1 }}
	byB := field{"By.B", func(n *api.Node) { n.By.B = 1 }}
	byC := field{"By.C", func(n *api.Node) { n.By.C = math.MaxUint64 }}
	bound := field{"Bound", func(n *api.Node) { n.Bound = 1 }}
	conns := field{"Conns", func(n *api.Node) { n.Conns = make([]api.Conn, 1) }}
	start := field{"Start", func(n *api.Node) { n.Start = true }}
	has := map[int][]string{
		api.KMap: {"Code"}, api.KFilter: {"Code"}, api.KLoop: {"By.A", "By.B", "By.C", "Bound"}, api.KFree: {"Conns", "Start"},
	}
	for _, n := range kinds() {
		if n.Kind == api.KFree {
			n.Ins, n.Outs = 1, 1
		}
		for _, f := range []field{code, byA, byB, byC, bound, conns, start} {
			with, e := n, api.ErrField
			f.fill(&with)
			if slices.Contains(has[n.Kind], f.name) {
				e = api.OK
			}
			of(t, f.name, 3, with, e)
		}
	}
}

func TestListsWithoutElementsAreNone(t *testing.T) { // P9.1, P2
	for _, n := range kinds() {
		n.Code, n.Conns = make([]api.Op, 0, 4), make([]api.Conn, 0, 4)
		of(t, "empty lists", 1, n, api.OK)
	}
	ask(t, "empty lists", api.Graph{Arity: 2, Nodes: []api.Node{}, Edges: []api.Edge{}}, api.OK, 0)
}

func TestPathsFitTheArity(t *testing.T) { // P9.1
	for arity := 1; arity <= 3; arity++ {
		for number := range 3 {
			for _, v := range []uint64{1, 1 << 32, math.MaxUint64} {
				numbers := [3]uint64{}
				numbers[number] = v
				by := api.Path{A: numbers[0], B: numbers[1], C: numbers[2]}
				field, conn := api.OK, api.OK
				if number >= arity {
					field, conn = api.ErrField, api.ErrConn
				}
				of(t, "a loop's By", arity, api.Node{Kind: api.KLoop, Ins: 1, Outs: 1, By: by}, field)
				of(t, "a connection's By", arity, api.Node{Kind: api.KFree, Ins: 1, Outs: 1, Conns: []api.Conn{{}, {By: by}}}, conn)
			}
		}
	}
}

func TestBound(t *testing.T) { // P9.1
	for bound, e := range map[uint64]api.Errno{0: api.OK, 64: api.OK, 65: api.ErrField, 1 << 32: api.ErrField, 1 << 63: api.ErrField, math.MaxUint64: api.ErrField} {
		of(t, "a loop's Bound", 1, api.Node{Kind: api.KLoop, Ins: 1, Outs: 1, Bound: bound}, e)
		of(t, "a loop's Bound, with By", 1, api.Node{Kind: api.KLoop, Ins: 1, Outs: 1, Bound: bound, By: api.Path{A: 1}}, e)
	}
}

func TestHowManyInstructions(t *testing.T) { // P9.1
	for _, kind := range []int{api.KMap, api.KFilter} {
		for many, e := range map[int]api.Errno{0: api.OK, 1: api.OK, api.MaxCode: api.OK, api.MaxCode + 1: api.ErrCode, 1000: api.ErrCode} {
			of(t, "instructions", 1, api.Node{Kind: kind, Ins: 1, Outs: 1, Code: make([]api.Op, many)}, e)
		}
		// Which instructions may be is another chapter's matter.
		for _, k := range []int{math.MinInt, -1, 0, 999, math.MaxInt} {
			of(t, "instructions", 1, api.Node{Kind: kind, Ins: 1, Outs: 1, Code: []api.Op{{Kind: k, Arg: math.MaxUint64}}}, api.OK)
		}
	}
}

func TestConnectionsThatMayBe(t *testing.T) { // P9.1
	free := frees(1)[0]
	for many, e := range map[int]api.Errno{0: api.OK, 1: api.OK, api.MaxConns: api.OK, api.MaxConns + 1: api.ErrConn, 1000: api.ErrConn} {
		free.Conns = holed(many)
		of(t, "connections", 1, free, e)
	}
	for ins := range 5 {
		for outs := range 5 {
			for _, in := range []int{math.MinInt, -1, 0, 1, 2, 3, 4, 1 << 32, math.MaxInt} {
				for _, out := range []int{math.MinInt, -1, 0, 1, 2, 3, 4, 1 << 32, math.MaxInt} {
					e := api.ErrConn
					if in >= 0 && in < ins && out >= 0 && out < outs {
						e = api.OK
					}
					of(t, "a connection", 1, api.Node{Kind: api.KFree, Ins: ins, Outs: outs, Conns: []api.Conn{{In: in, Out: out}}}, e)
				}
			}
		}
	}
}

func TestConnectionsThatAreTheSame(t *testing.T) { // P9.1
	free := frees(1)[0]
	base := api.Conn{In: 1, Out: 2, By: api.Path{A: 3, B: 4, C: 5}}
	for _, other := range []api.Conn{
		{In: 2, Out: 2, By: base.By}, {In: 1, Out: 1, By: base.By}, {In: 2, Out: 1, By: base.By},
		{In: 1, Out: 2, By: api.Path{A: 4, B: 4, C: 5}}, {In: 1, Out: 2, By: api.Path{A: 3, B: 3, C: 5}}, {In: 1, Out: 2, By: api.Path{A: 3, B: 4}}, {In: 1, Out: 2},
	} {
		free.Conns = []api.Conn{base, other}
		of(t, "two apart", 3, free, api.OK)
		free.Conns = []api.Conn{base, other, base}
		of(t, "the first again", 3, free, api.ErrConn)
		free.Conns = []api.Conn{base, other, other}
		of(t, "the second again", 3, free, api.ErrConn)
	}
}

func TestEdgesFromAndToWhatIsThere(t *testing.T) { // P9.1
	nodes := []api.Node{{Kind: api.KFree, Ins: 1, Outs: 3}, {Kind: api.KFree, Ins: 3, Outs: 1}, {Kind: api.KInput, Outs: 1}, {Kind: api.KProbe, Ins: 1}}
	outs, ins := []int{3, 1, 1, 0}, []int{1, 3, 0, 1}
	there := func(many []int, node, port int) bool {
		return node >= 0 && node < len(many) && port >= 0 && port < many[node]
	}
	numbers := []int{math.MinInt, -1, 0, 1, 2, 3, 4, 1 << 32, math.MaxInt}
	ends := func(hold func(node, port int)) {
		for _, node := range numbers {
			for _, port := range numbers {
				hold(node, port)
			}
		}
	}
	hold := func(d api.Edge) {
		e, at := api.OK, 0
		if !there(outs, d.From, d.Out) || !there(ins, d.To, d.In) {
			e, at = api.ErrEdge, 5
		}
		ask(t, "an edge", api.Graph{Arity: 1, Nodes: nodes, Edges: []api.Edge{{From: 0, Out: 2, To: 1, In: 2}, d}}, e, at)
	}
	ends(func(node, port int) {
		hold(api.Edge{From: node, Out: port, To: 1, In: 1})
		hold(api.Edge{From: 1, Out: 0, To: node, In: port, Keyed: true})
	})
	ask(t, "an edge without nodes", api.Graph{Arity: 1, Edges: make([]api.Edge, 1)}, api.ErrEdge, 0)
}

func TestEdgesThatAreTheSame(t *testing.T) { // P9.1
	base := api.Edge{From: 1, Out: 2, To: 2, In: 1}
	for _, other := range []api.Edge{{From: 0, Out: 2, To: 2, In: 1}, {From: 1, Out: 1, To: 2, In: 1}, {From: 1, Out: 2, To: 1, In: 1}, {From: 1, Out: 2, To: 2, In: 2}, {From: 2, Out: 1, To: 1, In: 2}} {
		for _, keyed := range [][3]bool{{}, {true, true, true}, {false, false, true}, {true, false, false}, {true, true, false}, {false, true, true}} {
			first, second, third := base, other, base
			first.Keyed, second.Keyed, third.Keyed = keyed[0], keyed[1], keyed[2]
			g := api.Graph{Arity: 1, Nodes: frees(3), Edges: []api.Edge{first, second}}
			ask(t, "two apart", g, api.OK, 0)
			g.Edges = append(g.Edges, third)
			ask(t, "the first again", g, api.ErrEdge, 5)
			g.Edges[2] = second
			g.Edges[2].Keyed = third.Keyed
			ask(t, "the second again", g, api.ErrEdge, 5)
		}
	}
}

func TestEdgesIntoASumAreKeyed(t *testing.T) { // P9.1
	for i, n := range kinds() {
		if n.Ins == 0 {
			continue
		}
		g := api.Graph{Arity: 1, Nodes: append(kinds(), n), Edges: []api.Edge{{From: 0, To: 8, Keyed: true}}}
		ask(t, "keyed", g, api.OK, 0)
		g.Edges[0].Keyed = false
		if n.Kind == api.KSum {
			ask(t, "not keyed, into a sum", g, api.ErrKeyed, 9)
		} else {
			ask(t, "not keyed", g, api.OK, 0)
		}
		if n.Outs == 1 {
			g.Edges[0] = api.Edge{From: i, To: 6}
			ask(t, "not keyed, from it", g, api.OK, 0)
		}
	}
}

func TestWhichErrorComesFirst(t *testing.T) { // P9.1, P4
	// Each turn brings in a fault that is told ahead of all those of the turns before it.
	g := counted()
	g.Nodes = append(g.Nodes, frees(1)...)
	turns := []struct {
		what string
		turn func()
		e    api.Errno
		at   int
	}{
		{"the second edge, into a sum, not keyed", func() { g.Edges[1] = api.Edge{From: 3, To: 1} }, api.ErrKeyed, 5},
		{"the second edge, not there", func() { g.Edges[1].Out = 4 }, api.ErrEdge, 5},
		{"the first edge, not keyed", func() { g.Edges[0].Keyed = false }, api.ErrKeyed, 4},
		{"the first edge, not there", func() { g.Edges[0].From = 9 }, api.ErrEdge, 4},
		{"the last node, a connection", func() { g.Nodes[3].Conns = []api.Conn{{In: 4}} }, api.ErrConn, 3},
		{"the last node, a field", func() { g.Nodes[3].Bound = 1 }, api.ErrField, 3},
		{"the last node, ports", func() { g.Nodes[3].Ins = 5 }, api.ErrPorts, 3},
		{"the last node, kind", func() { g.Nodes[3].Kind = 9 }, api.ErrKind, 3},
		{"a node ahead, too many instructions", func() {
			g.Nodes[2] = api.Node{Kind: api.KMap, Ins: 1, Outs: 1, Code: make([]api.Op, 17)}
		}, api.ErrCode, 2},
		{"a node ahead, a field", func() { g.Nodes[2].Start = true }, api.ErrField, 2},
		{"a node ahead, ports", func() { g.Nodes[2].Outs = 0 }, api.ErrPorts, 2},
		{"a node ahead, kind", func() { g.Nodes[2].Kind = -3 }, api.ErrKind, 2},
		{"the first node, a field", func() { g.Nodes[0].By.C = 1 }, api.ErrField, 0},
		{"too many edges", func() { g.Edges = append(g.Edges, make([]api.Edge, api.MaxEdges)...) }, api.ErrLong, 0},
		{"too many nodes", func() { g.Nodes = append(g.Nodes, make([]api.Node, api.MaxNodes)...) }, api.ErrLong, 0},
		{"the arity", func() { g.Arity = 4 }, api.ErrArity, 0},
	}
	for _, c := range turns {
		c.turn()
		ask(t, c.what, g, c.e, c.at)
	}
}

func TestAnEdgeTwiceAndNotKeyed(t *testing.T) { // P9.1, P4
	g := counted()
	g.Edges = append(g.Edges, api.Edge{From: 0, To: 1})
	ask(t, "the same, into a sum, not keyed", g, api.ErrEdge, 5)
	g.Edges[0].Keyed = false
	ask(t, "the first one not keyed", g, api.ErrKeyed, 3)
}

func TestPlacesOfWhatIsNotThere(t *testing.T) { // P9.3
	g := ask(t, "all kinds", api.Graph{Arity: 1, Nodes: append(kinds(), frees(1)...)}, api.OK, 0)
	for _, far := range []int{math.MinInt, -1, 9, 10, 1 << 32, math.MaxInt} {
		if g.In(far, 0) != -1 || g.Out(far, 0) != -1 || g.In(far, far) != -1 || g.Out(far, far) != -1 {
			t.Errorf("node %d has a place", far)
		}
	}
	for node, n := range g.Raw().Nodes {
		for _, port := range []int{math.MinInt, -1, n.Ins, n.Ins + 1, math.MaxInt} {
			if at := g.In(node, port); at != -1 {
				t.Errorf("In(%d, %d) = %d", node, port, at)
			}
		}
		for _, port := range []int{math.MinInt, -1, n.Outs, n.Outs + 1, math.MaxInt} {
			if at := g.Out(node, port); at != -1 {
				t.Errorf("Out(%d, %d) = %d", node, port, at)
			}
		}
	}
	for _, place := range []int{math.MinInt, -1, g.Places(), g.Places() + 1, 1 << 32, math.MaxInt} {
		if node, port, in := g.Of(place); node != -1 || port != -1 || in {
			t.Errorf("Of(%d) = %d, %d, %v", place, node, port, in)
		}
		for edge := range g.Edges(place) {
			t.Errorf("Edges(%d) gives %d", place, edge)
		}
	}
	for _, node := range []int{math.MinInt, -1, 9, 1 << 32, math.MaxInt} {
		if l := g.Conns(node); len(l) != 0 {
			t.Errorf("Conns(%d) = %v", node, l)
		}
	}
}

func TestPlacesAreNumberedNodeByNode(t *testing.T) { // P9.3
	g := ask(t, "three", api.Graph{Arity: 2, Nodes: []api.Node{{Kind: api.KFree, Ins: 2, Outs: 3}, {Kind: api.KFree}, {Kind: api.KJoin, Ins: 4, Outs: 1}, {Kind: api.KProbe, Ins: 1}}}, api.OK, 0)
	if g.Places() != 11 || g.Nodes() != 4 || g.Arity() != 2 {
		t.Errorf("%d places, %d nodes, arity %d", g.Places(), g.Nodes(), g.Arity())
	}
	want := [][3]int{{0, 0, 1}, {0, 1, 1}, {0, 0, 0}, {0, 1, 0}, {0, 2, 0}, {2, 0, 1}, {2, 1, 1}, {2, 2, 1}, {2, 3, 1}, {2, 0, 0}, {3, 0, 1}}
	for place, w := range want {
		node, port, in := g.Of(place)
		if node != w[0] || port != w[1] || in != (w[2] == 1) {
			t.Errorf("Of(%d) = %d, %d, %v", place, node, port, in)
		}
		back := g.Out(node, port)
		if in {
			back = g.In(node, port)
		}
		if back != place {
			t.Errorf("back from %d: %d", place, back)
		}
	}
}

func TestEdgesAtPlaces(t *testing.T) { // P9.4
	g := ask(t, "edges", api.Graph{Arity: 1, Nodes: frees(2), Edges: []api.Edge{
		{From: 1, Out: 3, To: 0, In: 0}, {From: 0, Out: 1, To: 1, In: 2}, {From: 1, Out: 3, To: 1, In: 2, Keyed: true}, {From: 1, Out: 0, To: 1, In: 2}, {From: 1, Out: 3, To: 0, In: 3},
	}}, api.OK, 0)
	want := map[int][]int{g.Out(1, 3): {0, 2, 4}, g.In(0, 0): {0}, g.Out(0, 1): {1}, g.In(1, 2): {1, 2, 3}, g.Out(1, 0): {3}, g.In(0, 3): {4}}
	for place := -1; place <= g.Places(); place++ {
		if l := slices.Collect(g.Edges(place)); !slices.Equal(l, want[place]) {
			t.Errorf("Edges(%d) gives %v, want %v", place, l, want[place])
		}
	}
}

func TestEdgesLeftEarlyAndGoneThroughAgain(t *testing.T) { // P9.4
	g := ask(t, "edges", api.Graph{Arity: 1, Nodes: frees(4), Edges: apart(api.MaxEdges)}, api.OK, 0)
	edges := g.Edges(g.Out(0, 1))
	all := slices.Collect(edges)
	if len(all) != 12 {
		t.Fatalf("%v", all)
	}
	for many := 1; many <= len(all); many++ {
		var l []int
		edges(func(edge int) bool {
			l = append(l, edge)
			return len(l) < many
		})
		if !slices.Equal(l, all[:many]) {
			t.Errorf("left behind %d: %v", many, l)
		}
	}
	var inner []int
	for edge := range edges {
		for other := range edges {
			if other > edge {
				break
			}
			inner = append(inner, other)
		}
	}
	if !slices.Equal(slices.Collect(edges), all) || len(inner) != 12*13/2 {
		t.Errorf("one inside another: %v", inner)
	}
}

func TestAPanicOfAYieldGoesThrough(t *testing.T) { // P1
	g := ask(t, "example 1", counted(), api.OK, 0)
	defer func() {
		if x := recover(); x != "mine" {
			t.Errorf("recovered %v", x)
		}
	}()
	g.Edges(0)(func(int) bool { panic("mine") })
}

func TestConnectionsOfEachKind(t *testing.T) { // P9.5
	by := api.Path{A: 7, B: math.MaxUint64, C: 1}
	listed := []api.Conn{{In: 1, By: by}, {In: 1}, {Out: 2}, {In: 0, Out: 0, By: by}}
	nodes := append(kinds(), api.Node{Kind: api.KJoin, Ins: 4, Outs: 1}, api.Node{Kind: api.KLoop, Ins: 1, Outs: 1, By: by, Bound: 3}, api.Node{Kind: api.KFree, Ins: 2, Outs: 3, Conns: listed}, api.Node{Kind: api.KFree, Ins: 2, Outs: 3})
	g := ask(t, "all kinds", api.Graph{Arity: 3, Nodes: nodes}, api.OK, 0)
	through := []api.Conn{{}}
	for node, want := range [][]api.Conn{nil, through, through, through, through, through, nil, nil, {{}, {In: 1}, {In: 2}, {In: 3}}, {{By: by}}, listed, nil} {
		if l := g.Conns(node); !slices.Equal(l, want) {
			t.Errorf("Conns(%d) = %v, want %v", node, l, want)
		}
	}
}
