package graph

import (
	"math"
	"slices"
	"testing"

	"sluice/api"
	"sluice/draws"
)

// drawer draws graphs; odd says how often something may not be (0: never).
type drawer struct {
	next func(below int) int
	odd  int
}

func (d drawer) strange() bool { return d.odd > 0 && d.next(d.odd) == 0 }

// below is a number of something of which there are so many.
func (d drawer) below(many int) int {
	if d.strange() {
		return []int{-1, many, many + 1, math.MinInt, math.MaxInt}[d.next(5)]
	}
	return d.next(many)
}

func (d drawer) path(arity int) api.Path {
	if d.strange() {
		arity++
	}
	numbers := [4]uint64{}
	for i := range arity {
		numbers[i] = uint64(d.next(2))
	}
	return api.Path{A: numbers[0], B: numbers[1], C: numbers[2]}
}

func (d drawer) node(arity int) api.Node {
	n := kinds()[d.next(8)]
	if n.Kind == api.KJoin {
		n.Ins = 1 + d.next(4)
	}
	if n.Kind == api.KFree {
		n.Ins, n.Outs, n.Start = d.next(5), d.next(5), d.next(2) == 0
		for range d.next(4) * min(n.Ins, 1) * min(n.Outs, 1) {
			c := api.Conn{In: d.below(n.Ins), Out: d.below(n.Outs), By: d.path(arity)}
			if d.strange() || !slices.Contains(n.Conns, c) {
				n.Conns = append(n.Conns, c)
			}
		}
	}
	if n.Kind == api.KLoop || d.strange() {
		n.By, n.Bound = d.path(arity), uint64(d.below(65))
	}
	if n.Kind == api.KMap || n.Kind == api.KFilter || d.strange() {
		n.Code = make([]api.Op, d.next(5))
	}
	return d.spoiled(n)
}

// spoiled is the node with what may not be, now and then.
func (d drawer) spoiled(n api.Node) api.Node {
	if d.strange() {
		n.Ins += d.next(5) - 2
	}
	if d.strange() {
		n.Outs += d.next(5) - 2
	}
	if d.strange() {
		n.Code = make([]api.Op, 15+d.next(4))
	}
	if d.strange() {
		n.Conns = holed(15 + d.next(3))
	}
	if d.strange() {
		n.Start = true
	}
	if d.strange() {
		n.Kind = d.next(11)
	}
	return n
}

// ports are those on one side of all nodes: node and port.
func ports(nodes []api.Node, side func(api.Node) int) [][2]int {
	var l [][2]int
	for i, n := range nodes {
		for p := range side(n) {
			l = append(l, [2]int{i, p})
		}
	}
	return l
}

func insOf(n api.Node) int  { return max(0, min(n.Ins, 9)) }
func outsOf(n api.Node) int { return max(0, min(n.Outs, 9)) }

func (d drawer) graph() api.Graph {
	g := api.Graph{Arity: 1 + d.next(3)}
	for range d.next(9) {
		g.Nodes = append(g.Nodes, d.node(g.Arity))
	}
	outs, ins := ports(g.Nodes, outsOf), ports(g.Nodes, insOf)
	for range d.next(14) * min(len(outs), 1) * min(len(ins), 1) {
		from, to := outs[d.next(len(outs))], ins[d.next(len(ins))]
		e := api.Edge{From: from[0], Out: from[1], To: to[0], In: to[1], Keyed: g.Nodes[to[0]].Kind == api.KSum || d.next(2) == 0}
		if d.strange() {
			e.Out = d.below(4)
		}
		if d.strange() {
			e.Keyed = false
		}
		if d.strange() {
			e.To, e.In = d.below(len(g.Nodes)), d.below(2)
		}
		if d.strange() || !slices.ContainsFunc(g.Edges, func(o api.Edge) bool {
			return o.From == e.From && o.Out == e.Out && o.To == e.To && o.In == e.In
		}) {
			g.Edges = append(g.Edges, e)
		}
	}
	if d.strange() {
		g.Arity = d.next(6) - 1
	}
	return g
}

// row is a line of the chapter's table: least and most of the ports, and the letters of the fields.
type row struct {
	ins, outs [2]int
	fields    string
}

func table() map[int]row {
	return map[int]row{
		1: {[2]int{0, 0}, [2]int{1, 1}, ""},
		2: {[2]int{1, 1}, [2]int{1, 1}, "c"},
		3: {[2]int{1, 1}, [2]int{1, 1}, "c"},
		4: {[2]int{1, 4}, [2]int{1, 1}, ""},
		5: {[2]int{1, 1}, [2]int{1, 1}, "bl"},
		6: {[2]int{1, 1}, [2]int{1, 1}, ""},
		7: {[2]int{1, 1}, [2]int{0, 0}, ""},
		8: {[2]int{0, 4}, [2]int{0, 4}, "ns"},
	}
}

func fits(p api.Path, arity int) bool {
	return (arity > 1 || p.B == 0) && (arity > 2 || p.C == 0)
}

// plainFields are the letters of the fields that aren't zero.
func plainFields(n api.Node) (s []byte) {
	for _, f := range []struct {
		letter byte
		is     bool
	}{{'c', len(n.Code) > 0}, {'b', n.By.A != 0 || n.By.B != 0 || n.By.C != 0}, {'l', n.Bound > 0}, {'n', len(n.Conns) > 0}, {'s', n.Start}} {
		if f.is {
			s = append(s, f.letter)
		}
	}
	return s
}

// plainNode goes through what is said of a node, word by word.
func plainNode(n api.Node, arity int) api.Errno {
	r, ok := table()[n.Kind]
	switch {
	case !ok:
		return api.ErrKind
	case n.Ins < r.ins[0] || n.Ins > r.ins[1] || n.Outs < r.outs[0] || n.Outs > r.outs[1]:
		return api.ErrPorts
	case slices.ContainsFunc(plainFields(n), func(b byte) bool { return !slices.Contains([]byte(r.fields), b) }):
		return api.ErrField
	case !fits(n.By, arity) || n.Bound > 64:
		return api.ErrField
	case len(n.Code) > 16:
		return api.ErrCode
	case len(n.Conns) > 16:
		return api.ErrConn
	}
	for i, c := range n.Conns {
		if c.In < 0 || c.In >= n.Ins || c.Out < 0 || c.Out >= n.Outs || !fits(c.By, arity) || slices.Index(n.Conns, c) < i {
			return api.ErrConn
		}
	}
	return api.OK
}

// plain goes through what is said of a graph, word by word.
func plain(g api.Graph) (api.Errno, int) {
	if g.Arity != 1 && g.Arity != 2 && g.Arity != 3 {
		return api.ErrArity, 0
	}
	if len(g.Nodes) > 24 || len(g.Edges) > 48 {
		return api.ErrLong, 0
	}
	for i, n := range g.Nodes {
		if e := plainNode(n, g.Arity); e != api.OK {
			return e, i
		}
	}
	outs, ins := ports(g.Nodes, outsOf), ports(g.Nodes, insOf)
	met := map[[4]int]int{}
	for i, d := range g.Edges {
		met[[4]int{d.From, d.Out, d.To, d.In}]++
		if !slices.Contains(outs, [2]int{d.From, d.Out}) || !slices.Contains(ins, [2]int{d.To, d.In}) || met[[4]int{d.From, d.Out, d.To, d.In}] > 1 {
			return api.ErrEdge, len(g.Nodes) + i
		}
		if g.Nodes[d.To].Kind == api.KSum && !d.Keyed {
			return api.ErrKeyed, len(g.Nodes) + i
		}
	}
	return api.OK, 0
}

func TestNewAgainstItsWords(t *testing.T) { // P9.1, P9.2
	often := map[api.Errno]int{}
	for seed := range 60000 {
		d := drawer{draws.Numbers(uint64(seed)), []int{0, 6, 20, 60}[seed%4]}
		raw := d.graph()
		e, at := plain(raw)
		g, f, where := New(raw)
		if e != f || at != where || (g != nil) != (e == api.OK) {
			t.Fatalf("seed %d: %d at %d, want %d at %d: %v", seed, f, where, e, at, raw)
		}
		if e == api.OK && (!same(g.Raw(), raw) || g.Arity() != raw.Arity || g.Nodes() != len(raw.Nodes)) {
			t.Fatalf("seed %d: %v comes out as %v", seed, raw, g.Raw())
		}
		often[e]++
	}
	for _, e := range []api.Errno{api.OK, api.ErrArity, api.ErrKind, api.ErrPorts, api.ErrField, api.ErrCode, api.ErrConn, api.ErrEdge, api.ErrKeyed} {
		if often[e] < 100 {
			t.Errorf("error %d was drawn %d times alone", e, often[e])
		}
	}
}

// holdPlaces holds a graph to what is said of its places.
func holdPlaces(t *testing.T, g *Graph) {
	t.Helper()
	raw := g.Raw()
	next := 0
	for i, n := range raw.Nodes {
		for p := range n.Ins {
			if node, port, in := g.Of(next); g.In(i, p) != next || node != i || port != p || !in {
				t.Errorf("In(%d, %d) = %d, want %d, back: %d, %d, %v", i, p, g.In(i, p), next, node, port, in)
			}
			next++
		}
		for p := range n.Outs {
			if node, port, in := g.Of(next); g.Out(i, p) != next || node != i || port != p || in {
				t.Errorf("Out(%d, %d) = %d, want %d, back: %d, %d, %v", i, p, g.Out(i, p), next, node, port, in)
			}
			next++
		}
	}
	if g.Places() != next {
		t.Errorf("%d places, want %d", g.Places(), next)
	}
}

// holdEdges holds a graph to what is said of its edges at places.
func holdEdges(t *testing.T, g *Graph) {
	t.Helper()
	at := make([][]int, len(g.Raw().Edges))
	for place := range g.Places() {
		last := -1
		for edge := range g.Edges(place) {
			if edge <= last {
				t.Errorf("at %d: %d behind %d", place, edge, last)
			}
			at[edge], last = append(at[edge], place), edge
		}
	}
	for i, d := range g.Raw().Edges {
		want := []int{g.Out(d.From, d.Out), g.In(d.To, d.In)}
		slices.Sort(want)
		if !slices.Equal(at[i], want) {
			t.Errorf("edge %d stands at %v, want %v", i, at[i], want)
		}
	}
}

func TestPlacesAndEdgesThereAndBack(t *testing.T) { // P9.3, P9.4, P9.6
	for seed := range 3000 {
		d := drawer{draws.Numbers(uint64(seed)), 0}
		g, e, _ := New(d.graph())
		if e != api.OK {
			t.Fatalf("seed %d: %d", seed, e)
		}
		holdPlaces(t, g)
		holdEdges(t, g)
	}
}

func TestConnsAgainstTheirWords(t *testing.T) { // P9.5
	for seed := range 3000 {
		d := drawer{draws.Numbers(uint64(seed)), 0}
		raw := d.graph()
		g, _, _ := New(raw)
		for i, n := range raw.Nodes {
			var want []api.Conn
			switch n.Kind {
			case api.KMap, api.KFilter, api.KSum:
				want = []api.Conn{{In: 0, Out: 0, By: api.Path{}}}
			case api.KJoin:
				for p := range n.Ins {
					want = append(want, api.Conn{In: p})
				}
			case api.KLoop:
				want = []api.Conn{{By: n.By}}
			case api.KFree:
				want = n.Conns
			}
			if l := g.Conns(i); !slices.Equal(l, want) {
				t.Fatalf("seed %d: Conns(%d) = %v, want %v", seed, i, l, want)
			}
		}
	}
}
