package draws

import (
	"reflect"
	"slices"
	"testing"

	"sluice/api"
	"sluice/graph"
)

func TestGraphsMayBe(t *testing.T) {
	kinds, arities := map[int]int{}, map[int]int{}
	most, edges, conns := 0, 0, 0
	for seed := range 2000 {
		g := Graph(Numbers(uint64(seed)), 25, 49)
		if _, e, at := graph.New(g); e != api.OK {
			t.Fatalf("seed %d: %d at %d: %v", seed, e, at, g)
		}
		arities[g.Arity]++
		most, edges = max(most, len(g.Nodes)), max(edges, len(g.Edges))
		for _, n := range g.Nodes {
			kinds[n.Kind]++
			conns = max(conns, len(n.Conns))
		}
	}
	if len(kinds) != 8 || len(arities) != 3 || most != api.MaxNodes || edges < 40 || conns != api.MaxConns {
		t.Errorf("kinds %v, arities %v, at most %d nodes, %d edges, %d connections", kinds, arities, most, edges, conns)
	}
}

func TestGraphsAreTheSameEachTime(t *testing.T) {
	one, two := Graph(Numbers(5), 9, 14), Graph(Numbers(5), 9, 14)
	if !reflect.DeepEqual(one, two) {
		t.Error("the same seed draws another graph")
	}
	if reflect.DeepEqual(one, Graph(Numbers(6), 9, 14)) {
		t.Error("another seed draws the same graph")
	}
	if g := Graph(Numbers(5), 0, 14); len(g.Nodes) != 0 || len(g.Edges) != 0 {
		t.Errorf("a graph of no nodes: %v", g)
	}
}

func TestAdvancingGraphsAdvance(t *testing.T) {
	back, most, edges, still := 0, 0, 0, 0
	for seed := range 2000 {
		g := Advancing(Numbers(uint64(seed)), 25, 49)
		if _, e, at := graph.New(g); e != api.OK {
			t.Fatalf("seed %d: %d at %d: %v", seed, e, at, g)
		}
		if standsStill(g) {
			t.Fatalf("seed %d: a cycle doesn't advance: %v", seed, g)
		}
		if standsStill(Graph(Numbers(uint64(seed)), 25, 49)) {
			still++
		}
		most, edges = max(most, len(g.Nodes)), max(edges, len(g.Edges))
		for _, d := range g.Edges {
			if d.From >= d.To {
				back++
			}
		}
	}
	if most != api.MaxNodes || edges < 30 || back < 2000 || still < 500 {
		t.Errorf("at most %d nodes and %d edges, %d of all edges lead back; of others %d stand still", most, edges, back, still)
	}
}

// standsStill tells whether some way by empty paths comes back to its place: what is left is taken away as long as there is a place to which none leads.
func standsStill(g api.Graph) bool {
	steps, places := Steps(g)
	left := 0
	for range places {
		var to []int
		for _, s := range steps {
			if (s.By == api.Path{}) {
				to = append(to, s.To)
			}
		}
		left = len(to)
		steps = slices.DeleteFunc(steps, func(s Step) bool { return !slices.Contains(to, s.From) })
	}
	return left > 0
}
