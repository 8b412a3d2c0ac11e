package draws

import "sluice/api"

// Lively is a graph in which every cycle advances and much goes on: one of some that are written out, or one that is drawn.
func Lively(next func(below int) int) api.Graph {
	switch next(8) {
	case 0:
		return Ring()
	case 1:
		return Busy()
	case 2:
		return Rounds()
	case 3:
		return Sums()
	}
	return Coded(next, Advancing(next, 9, 20))
}

// Ring is an input and a loop into a join, whose records go to the loop and to a probe: DOC.md's fifth example of the whole.
func Ring() api.Graph {
	return api.Graph{Arity: 1, Nodes: []api.Node{
		{Kind: api.KInput, Outs: 1},
		{Kind: api.KJoin, Ins: 2, Outs: 1},
		{Kind: api.KLoop, Ins: 1, Outs: 1, By: api.Path{A: 1}, Bound: 2},
		{Kind: api.KProbe, Ins: 1},
	}, Edges: []api.Edge{
		{From: 0, To: 1}, {From: 1, To: 2}, {From: 2, To: 1, In: 1}, {From: 1, To: 3},
	}}
}

// Busy has all kinds of nodes but free ones, with a sum and a map within a loop that leads back to an earlier node.
func Busy() api.Graph {
	return api.Graph{Arity: 2, Nodes: []api.Node{
		{Kind: api.KJoin, Ins: 3, Outs: 1},
		{Kind: api.KSum, Ins: 1, Outs: 1},
		{Kind: api.KMap, Ins: 1, Outs: 1, Code: []api.Op{{Kind: 3, Arg: 4}, {Kind: 5, Arg: 1}}},
		{Kind: api.KLoop, Ins: 1, Outs: 1, By: api.Path{B: 1}, Bound: 3},
		{Kind: api.KProbe, Ins: 1},
		{Kind: api.KInput, Outs: 1},
		{Kind: api.KFilter, Ins: 1, Outs: 1, Code: []api.Op{{Kind: 25, Arg: 2}}},
		{Kind: api.KInput, Outs: 1},
		{Kind: api.KSum, Ins: 1, Outs: 1},
		{Kind: api.KProbe, Ins: 1},
	}, Edges: []api.Edge{
		{From: 5, To: 0}, {From: 7, To: 6, Keyed: true}, {From: 6, To: 0, In: 1}, {From: 0, To: 1, Keyed: true}, {From: 1, To: 2}, {From: 1, To: 4},
		{From: 2, To: 3, Keyed: true}, {From: 3, To: 0, In: 2}, {From: 2, To: 8, Keyed: true}, {From: 8, To: 9}, {From: 8, To: 4},
	}}
}

// Rounds is two free nodes and a sum in a round, with a probe.
func Rounds() api.Graph {
	return api.Graph{Arity: 1, Nodes: []api.Node{
		{Kind: api.KFree, Ins: 1, Outs: 2, Conns: []api.Conn{{By: api.Path{A: 1}}, {Out: 1}, {Out: 1, By: api.Path{A: 2}}}, Start: true},
		{Kind: api.KSum, Ins: 1, Outs: 1},
		{Kind: api.KFree, Ins: 2, Outs: 1, Conns: []api.Conn{{}, {In: 1}, {In: 1, By: api.Path{A: 1<<64 - 1}}}},
		{Kind: api.KProbe, Ins: 1},
		{Kind: api.KLoop, Ins: 1, Outs: 1},
	}, Edges: []api.Edge{
		{From: 0, To: 1, Keyed: true}, {From: 1, To: 2}, {From: 0, Out: 1, To: 2, In: 1, Keyed: true}, {From: 2, To: 4, Keyed: true}, {From: 4, To: 3}, {From: 2, To: 3, Keyed: true},
	}}
}

// Sums is a row with two sums, and a map between them that makes few keys of many.
func Sums() api.Graph {
	return api.Graph{Arity: 1, Nodes: []api.Node{
		{Kind: api.KInput, Outs: 1},
		{Kind: api.KSum, Ins: 1, Outs: 1},
		{Kind: api.KMap, Ins: 1, Outs: 1, Code: []api.Op{{Kind: 3, Arg: 2}}},
		{Kind: api.KSum, Ins: 1, Outs: 1},
		{Kind: api.KLoop, Ins: 1, Outs: 1, By: api.Path{A: 1}, Bound: 5},
		{Kind: api.KProbe, Ins: 1},
	}, Edges: []api.Edge{
		{From: 0, To: 1, Keyed: true}, {From: 1, To: 2}, {From: 2, To: 3, Keyed: true}, {From: 3, To: 4}, {From: 4, To: 5},
	}}
}
