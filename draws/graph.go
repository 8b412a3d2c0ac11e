package draws

import (
	"math"
	"slices"

	"sluice/api"
)

// port is one of a node's.
type port struct{ node, number int }

// Graph is one that may be by its nodes and edges (chapter 9), of fewer nodes and edges than it is asked. Its paths are empty, small, or so great that two of them behind one another are none.
func Graph(next func(below int) int, nodes, edges int) api.Graph {
	g := api.Graph{Arity: 1 + next(api.MaxArity)}
	var ins, outs []port
	for i := range next(nodes) {
		n := drawnNode(next, g.Arity)
		ins, outs = append(ins, ports(i, n.Ins)...), append(outs, ports(i, n.Outs)...)
		g.Nodes = append(g.Nodes, n)
	}
	if len(ins) == 0 || len(outs) == 0 {
		return g
	}
	for range next(edges) {
		from, to := outs[next(len(outs))], ins[next(len(ins))]
		sums := g.Nodes[to.node].Kind == api.KSum
		d := api.Edge{From: from.node, Out: from.number, To: to.node, In: to.number, Keyed: sums || next(2) == 0}
		if !slices.ContainsFunc(g.Edges, func(o api.Edge) bool { return waySame(o, d) }) {
			g.Edges = append(g.Edges, d)
		}
	}
	return g
}

func drawnNode(next func(below int) int, arity int) api.Node {
	n := api.Node{Kind: api.KInput + next(api.KFree), Ins: 1, Outs: 1}
	switch n.Kind {
	case api.KInput:
		n.Ins = 0
	case api.KJoin:
		n.Ins = 1 + next(api.MaxPorts)
	case api.KLoop:
		n.By, n.Bound = drawnPath(next, arity), uint64(next(api.MaxBound+1))
	case api.KProbe:
		n.Outs = 0
	case api.KFree:
		n.Ins, n.Outs, n.Start = next(api.MaxPorts+1), next(api.MaxPorts+1), next(2) == 0
		n.Conns = drawnConns(next, arity, n.Ins, n.Outs)
	}
	return n
}

func drawnConns(next func(below int) int, arity, ins, outs int) []api.Conn {
	if ins == 0 || outs == 0 {
		return nil
	}
	var l []api.Conn
	for range next(api.MaxConns + 1) {
		c := api.Conn{In: next(ins), Out: next(outs), By: drawnPath(next, arity)}
		if !slices.Contains(l, c) {
			l = append(l, c)
		}
	}
	return l
}

func drawnPath(next func(below int) int, arity int) api.Path {
	if next(2) == 0 {
		return api.Path{}
	}
	var numbers [api.MaxArity]uint64
	for i := range arity {
		numbers[i] = []uint64{0, 0, 1, 2, 3, 1 << 63, math.MaxUint64}[next(7)]
	}
	return api.Path{A: numbers[0], B: numbers[1], C: numbers[2]}
}

func ports(node, many int) []port {
	var l []port
	for number := range many {
		l = append(l, port{node, number})
	}
	return l
}

// waySame tells whether two edges lead from one port to one other, keyed or not.
func waySame(c, d api.Edge) bool {
	c.Keyed = d.Keyed
	return c == d
}
