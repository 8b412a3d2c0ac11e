package draws

import (
	"slices"

	"sluice/api"
)

// Roomy is a graph as new memory, with room behind every list in which something stands.
func Roomy(g api.Graph) api.Graph {
	g.Nodes = roomy(g.Nodes, api.Node{Kind: -7})
	g.Edges = roomy(g.Edges, api.Edge{From: -7})
	for i, n := range g.Nodes {
		g.Nodes[i].Code = roomy(n.Code, api.Op{Kind: -7, Arg: 7})
		g.Nodes[i].Conns = roomy(n.Conns, api.Conn{In: -7, Out: -7})
	}
	return g
}

// Spare is such a graph as new memory, with what stands one behind every list as the list's last.
func Spare(g api.Graph) api.Graph {
	nodes := len(g.Nodes)
	g.Nodes, g.Edges = spare(g.Nodes), spare(g.Edges)
	for i, n := range g.Nodes[:nodes] {
		g.Nodes[i].Code, g.Nodes[i].Conns = spare(n.Code), spare(n.Conns)
	}
	return g
}

func roomy[T any](l []T, behind T) []T {
	return append(slices.Clone(l), behind)[:len(l)]
}

func spare[T any](l []T) []T { return slices.Clone(l[:len(l)+1]) }
