package draws

import (
	"reflect"
	"testing"

	"sluice/api"
	"sluice/code"
)

func TestCodeMayBe(t *testing.T) {
	kinds, pass := map[int]int{}, 0
	for seed := range 1000 {
		next := Numbers(uint64(seed))
		g := Graph(next, 25, 49)
		was := Spare(Roomy(g))
		coded := Coded(next, g)
		if !reflect.DeepEqual(Spare(Roomy(g)), was) {
			t.Fatal("the graph that was handed in is changed")
		}
		for i, n := range coded.Nodes {
			for _, o := range n.Code {
				kinds[o.Kind]++
			}
			if (n.Kind == api.KMap || n.Kind == api.KFilter) && code.Check(n.Kind, n.Code...) != api.OK {
				t.Fatalf("seed %d: %v may not be", seed, n)
			}
			if n.Kind == api.KFilter && code.Pass(n.Code, api.Record{Key: 2, Val: 2}) {
				pass++
			}
			n.Code = nil
			if !reflect.DeepEqual(n, g.Nodes[i]) {
				t.Fatalf("seed %d: %v has become %v", seed, g.Nodes[i], n)
			}
		}
	}
	if len(kinds) != 18 || pass < 500 {
		t.Errorf("instructions %v, %d filters let {2, 2} pass", kinds, pass)
	}
}
