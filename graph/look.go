package graph

import (
	"slices"

	"sluice/api"
)

// flawOf is the first thing for which a graph may not be, and where it stands: nodes are counted first, then edges.
func flawOf(g api.Graph) (api.Errno, int) {
	if g.Arity < 1 || g.Arity > api.MaxArity {
		return api.ErrArity, 0
	}
	if len(g.Nodes) > api.MaxNodes || len(g.Edges) > api.MaxEdges {
		return api.ErrLong, 0
	}
	for i, n := range g.Nodes {
		if e := nodeFlaw(n, g.Arity); e != api.OK {
			return e, i
		}
	}
	for i, d := range g.Edges {
		if e := edgeFlaw(d, g.Edges[:i], g.Nodes); e != api.OK {
			return e, len(g.Nodes) + i
		}
	}
	return api.OK, 0
}

func nodeFlaw(n api.Node, arity int) api.Errno {
	k, ok := kindOf(n.Kind)
	if !ok {
		return api.ErrKind
	}
	if !k.ins(n.Ins) || !k.outs(n.Outs) {
		return api.ErrPorts
	}
	if hasFields(k.without(n)) {
		return api.ErrField
	}
	return k.flaw(n, arity)
}

// hasFields tells whether anything but the kind and the ports is there. A list without elements is none, nil or not.
func hasFields(n api.Node) bool {
	return len(n.Code) > 0 || n.By != api.Path{} || n.Bound != 0 || len(n.Conns) > 0 || n.Start
}

func edgeFlaw(d api.Edge, earlier []api.Edge, nodes []api.Node) api.Errno {
	same := func(o api.Edge) bool { return waySame(o, d) }
	if !hasOut(nodes, d.From, d.Out) || !hasIn(nodes, d.To, d.In) || slices.ContainsFunc(earlier, same) {
		return api.ErrEdge
	}
	if nodes[d.To].Kind == api.KSum && !d.Keyed {
		return api.ErrKeyed
	}
	return api.OK
}

// waySame tells whether two edges lead from one port to one other, keyed or not.
func waySame(c, d api.Edge) bool {
	c.Keyed = d.Keyed
	return c == d
}

func hasIn(nodes []api.Node, node, port int) bool {
	return among(node, len(nodes)) && among(port, nodes[node].Ins)
}

func hasOut(nodes []api.Node, node, port int) bool {
	return among(node, len(nodes)) && among(port, nodes[node].Outs)
}
