package draws

import (
	"reflect"
	"testing"

	"sluice/api"
	"sluice/code"
	"sluice/graph"
)

func TestLivelyGraphsMayBe(t *testing.T) {
	kinds := map[int]int{}
	var often [4]int
	for seed := range 400 {
		g := Lively(Numbers(uint64(seed)))
		if _, e, at := graph.New(g); e != api.OK {
			t.Fatalf("seed %d: %d at %d: %v", seed, e, at, g)
		}
		if standsStill(g) {
			t.Fatalf("seed %d: a cycle doesn't advance: %v", seed, g)
		}
		for i, one := range []api.Graph{Ring(), Busy(), Rounds(), Sums()} {
			if reflect.DeepEqual(g, one) {
				often[i]++
			}
		}
		for _, n := range g.Nodes {
			kinds[n.Kind]++
			if n.Kind == api.KMap || n.Kind == api.KFilter {
				if e := code.Check(n.Kind, n.Code...); e != api.OK {
					t.Fatalf("seed %d: %v may not be", seed, n)
				}
			}
		}
	}
	if len(kinds) != 8 || min(often[0], often[1], often[2], often[3]) < 20 {
		t.Errorf("kinds %v, those that are written out %v", kinds, often)
	}
}

func TestLivelyGraphsAreTheSameEachTime(t *testing.T) {
	for seed := range uint64(50) {
		if !reflect.DeepEqual(Lively(Numbers(seed)), Lively(Numbers(seed))) {
			t.Fatalf("seed %d draws another graph", seed)
		}
	}
}
