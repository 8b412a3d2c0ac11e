package draws

import (
	"slices"
	"testing"

	"sluice/api"
	"sluice/graph"
)

func TestStepsAreEdgesAndConnections(t *testing.T) {
	kinds := []api.Node{{Kind: api.KInput, Outs: 1}, {Kind: api.KMap, Ins: 1, Outs: 1}, {Kind: api.KFilter, Ins: 1, Outs: 1}, {Kind: api.KJoin, Ins: 2, Outs: 1}, {Kind: api.KLoop, Ins: 1, Outs: 1, By: api.Path{A: 7}}, {Kind: api.KSum, Ins: 1, Outs: 1}, {Kind: api.KProbe, Ins: 1}, {Kind: api.KFree, Ins: 2, Outs: 2, Conns: []api.Conn{{In: 1, By: api.Path{A: 9}}, {Out: 1}}}}
	l, places := Steps(api.Graph{Arity: 1, Nodes: kinds, Edges: []api.Edge{{From: 7, Out: 1, To: 3, In: 1}, {From: 0, To: 6}}})
	want := []Step{{From: 1, To: 2}, {From: 3, To: 4}, {From: 5, To: 7}, {From: 6, To: 7}, {From: 8, To: 9, By: api.Path{A: 7}}, {From: 10, To: 11}, {From: 14, To: 15, By: api.Path{A: 9}}, {From: 13, To: 16}, {From: 16, To: 6}, {From: 0, To: 12}}
	if !slices.Equal(l, want) || places != 17 {
		t.Errorf("%d places, steps %v", places, l)
	}
}

func TestStepsAreAsTheGraphSays(t *testing.T) {
	for seed := range 1000 {
		raw := Graph(Numbers(uint64(seed)), 12, 25)
		g, _, _ := graph.New(raw)
		var want []Step
		for node := range g.Nodes() {
			for _, c := range g.Conns(node) {
				want = append(want, Step{From: g.In(node, c.In), To: g.Out(node, c.Out), By: c.By})
			}
		}
		for _, d := range raw.Edges {
			want = append(want, Step{From: g.Out(d.From, d.Out), To: g.In(d.To, d.In)})
		}
		if l, places := Steps(raw); !slices.Equal(l, want) || places != g.Places() {
			t.Fatalf("seed %d: %d places, steps %v, want %v", seed, places, l, want)
		}
	}
}
