package draws

import (
	"math"

	"sluice/api"
)

// Coded is a graph as new nodes, in which maps and filters have some instructions that may be (chapter 20). Most filters let something pass.
func Coded(next func(below int) int, g api.Graph) api.Graph {
	nodes := append([]api.Node(nil), g.Nodes...)
	for i, n := range nodes {
		switch n.Kind {
		case api.KMap:
			nodes[i].Code = drawnCode(next, 1, 10)
		case api.KFilter:
			nodes[i].Code = drawnCode(next, 21, 28)
		}
	}
	g.Nodes = nodes
	return g
}

// drawnCode has kinds from a first to a last one.
func drawnCode(next func(below int) int, first, last int) []api.Op {
	var l []api.Op
	for range next(4) {
		o := api.Op{Kind: first + next(last-first+1), Arg: []uint64{1, 2, 3, 5, 8, math.MaxUint64}[next(6)]}
		switch o.Kind {
		case 7, 8, 28:
			o.Arg = 0
		}
		l = append(l, o)
	}
	return l
}
