package draws

import (
	"math"
	"slices"

	"sluice/api"
)

// port is one of a node's.
type port struct{ node, number int }

// Graph is one that may be by its nodes and edges (chapter 9), of fewer nodes and edges than it is asked. Its paths are empty, small, or so great that two of them behind one another are none.
func Graph(next func(below int) int, nodes, edges int) api.Graph {
	g := api.Graph{Arity: 1 + next(api.MaxArity)}
	for range next(nodes) {
		g.Nodes = append(g.Nodes, drawnNode(next, g.Arity, drawnPath))
	}
	g.Edges = drawnEdges(next, edges, g.Nodes, func(from, to int) bool { return true })
	return g
}

// Advancing is such a graph in which every cycle advances: edges lead back only from nodes through which every way does.
func Advancing(next func(below int) int, nodes, edges int) api.Graph {
	g := api.Graph{Arity: 1 + next(api.MaxArity)}
	for range next(nodes) {
		by := drawnPath
		if next(3) > 0 {
			by = drawnStep
		}
		g.Nodes = append(g.Nodes, drawnNode(next, g.Arity, by))
	}
	g.Edges = drawnEdges(next, edges, g.Nodes, func(from, to int) bool { return from < to || advances(g.Nodes[from]) })
	return g
}

// advances tells whether something leads through a node, and nothing by the empty path.
func advances(n api.Node) bool {
	l := through(n)
	return len(l) > 0 && !slices.ContainsFunc(l, func(c api.Conn) bool { return c.By == api.Path{} })
}

func drawnEdges(next func(below int) int, many int, nodes []api.Node, may func(from, to int) bool) []api.Edge {
	var ins, outs []port
	for i, n := range nodes {
		ins, outs = append(ins, ports(i, n.Ins)...), append(outs, ports(i, n.Outs)...)
	}
	if len(ins) == 0 || len(outs) == 0 {
		return nil
	}
	var l []api.Edge
	for range next(many) {
		from, to := outs[next(len(outs))], ins[next(len(ins))]
		sums := nodes[to.node].Kind == api.KSum
		d := api.Edge{From: from.node, Out: from.number, To: to.node, In: to.number, Keyed: sums || next(2) == 0}
		if may(d.From, d.To) && !slices.ContainsFunc(l, func(o api.Edge) bool { return waySame(o, d) }) {
			l = append(l, d)
		}
	}
	return l
}

func drawnNode(next func(below int) int, arity int, by func(next func(below int) int, arity int) api.Path) api.Node {
	n := api.Node{Kind: api.KInput + next(api.KFree), Ins: 1, Outs: 1}
	switch n.Kind {
	case api.KInput:
		n.Ins = 0
	case api.KJoin:
		n.Ins = 1 + next(api.MaxPorts)
	case api.KLoop:
		n.By, n.Bound = by(next, arity), uint64(next(api.MaxBound+1))
	case api.KProbe:
		n.Outs = 0
	case api.KFree:
		n.Ins, n.Outs, n.Start = next(api.MaxPorts+1), next(api.MaxPorts+1), next(2) == 0
		n.Conns = drawnConns(next, n.Ins, n.Outs, func() api.Path { return by(next, arity) })
	}
	return n
}

func drawnConns(next func(below int) int, ins, outs int, by func() api.Path) []api.Conn {
	if ins == 0 || outs == 0 {
		return nil
	}
	var l []api.Conn
	for range next(api.MaxConns + 1) {
		c := api.Conn{In: next(ins), Out: next(outs), By: by()}
		if !slices.Contains(l, c) {
			l = append(l, c)
		}
	}
	return l
}

func drawnPath(next func(below int) int, arity int) api.Path {
	if next(2) == 0 {
		return api.Path{}
	}
	var numbers [api.MaxArity]uint64
	for i := range arity {
		numbers[i] = []uint64{0, 0, 1, 2, 3, 1 << 63, math.MaxUint64}[next(7)]
	}
	return api.Path{A: numbers[0], B: numbers[1], C: numbers[2]}
}

// drawnStep is a path that advances, mostly by small numbers, so that many are apart.
func drawnStep(next func(below int) int, arity int) api.Path {
	var numbers [api.MaxArity]uint64
	for i := range arity {
		numbers[i] = uint64(next(5))
	}
	if next(20) == 0 {
		numbers[next(arity)] = math.MaxUint64
	}
	numbers[next(arity)] |= 1
	return api.Path{A: numbers[0], B: numbers[1], C: numbers[2]}
}

func ports(node, many int) []port {
	var l []port
	for number := range many {
		l = append(l, port{node, number})
	}
	return l
}

// waySame tells whether two edges lead from one port to one other, keyed or not.
func waySame(c, d api.Edge) bool {
	c.Keyed = d.Keyed
	return c == d
}
