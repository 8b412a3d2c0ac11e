package draws

import (
	"reflect"
	"testing"

	"sluice/api"
	"sluice/graph"
)

func TestGraphsMayBe(t *testing.T) {
	kinds, arities := map[int]int{}, map[int]int{}
	most, edges, conns := 0, 0, 0
	for seed := range 2000 {
		g := Graph(Numbers(uint64(seed)), 25, 49)
		if _, e, at := graph.New(g); e != api.OK {
			t.Fatalf("seed %d: %d at %d: %v", seed, e, at, g)
		}
		arities[g.Arity]++
		most, edges = max(most, len(g.Nodes)), max(edges, len(g.Edges))
		for _, n := range g.Nodes {
			kinds[n.Kind]++
			conns = max(conns, len(n.Conns))
		}
	}
	if len(kinds) != 8 || len(arities) != 3 || most != api.MaxNodes || edges < 40 || conns != api.MaxConns {
		t.Errorf("kinds %v, arities %v, at most %d nodes, %d edges, %d connections", kinds, arities, most, edges, conns)
	}
}

func TestGraphsAreTheSameEachTime(t *testing.T) {
	one, two := Graph(Numbers(5), 9, 14), Graph(Numbers(5), 9, 14)
	if !reflect.DeepEqual(one, two) {
		t.Error("the same seed draws another graph")
	}
	if reflect.DeepEqual(one, Graph(Numbers(6), 9, 14)) {
		t.Error("another seed draws the same graph")
	}
	if g := Graph(Numbers(5), 0, 14); len(g.Nodes) != 0 || len(g.Edges) != 0 {
		t.Errorf("a graph of no nodes: %v", g)
	}
}
