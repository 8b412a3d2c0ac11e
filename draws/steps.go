package draws

import "sluice/api"

// Step is an edge or a connection, from place to place.
type Step struct {
	From, To int
	By       api.Path
}

// Steps are all edges and connections of a graph that may be, and how many places it has. The places are numbered here by DOC.md's words, so that package graph can be held against them.
func Steps(g api.Graph) ([]Step, int) {
	ins, outs := make([]int, len(g.Nodes)), make([]int, len(g.Nodes))
	places := 0
	for i, n := range g.Nodes {
		ins[i], outs[i] = places, places+n.Ins
		places += n.Ins + n.Outs
	}
	var l []Step
	for i, n := range g.Nodes {
		for _, c := range through(n) {
			l = append(l, Step{From: ins[i] + c.In, To: outs[i] + c.Out, By: c.By})
		}
	}
	for _, d := range g.Edges {
		l = append(l, Step{From: outs[d.From] + d.Out, To: ins[d.To] + d.In})
	}
	return l, places
}

// through is what leads through a node.
func through(n api.Node) []api.Conn {
	switch n.Kind {
	case api.KMap, api.KFilter, api.KSum:
		return []api.Conn{{}}
	case api.KJoin:
		var l []api.Conn
		for in := range n.Ins {
			l = append(l, api.Conn{In: in})
		}
		return l
	case api.KLoop:
		return []api.Conn{{By: n.By}}
	}
	return n.Conns
}
