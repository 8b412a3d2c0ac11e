package draws

import (
	"reflect"
	"testing"

	"sluice/api"
)

func TestRoomIsSeenBehindEveryList(t *testing.T) {
	made := func() api.Graph {
		return Roomy(api.Graph{Arity: 1, Nodes: []api.Node{{Kind: api.KMap, Code: []api.Op{{Kind: 1}}}, {Kind: api.KFree, Conns: []api.Conn{{In: 1}}}}, Edges: []api.Edge{{To: 1}}})
	}
	g := made()
	if len(g.Nodes) != 2 || len(g.Edges) != 1 || len(g.Nodes[0].Code) != 1 || len(g.Nodes[0].Conns) != 0 || len(g.Nodes[1].Conns) != 1 {
		t.Fatalf("other lists: %v", g)
	}
	for i, write := range []func(g api.Graph){
		func(g api.Graph) { g.Nodes[:3][2].Kind = 1 },
		func(g api.Graph) { g.Edges[:2][1].From = 1 },
		func(g api.Graph) { g.Nodes[0].Code[:2][1].Arg = 1 },
		func(g api.Graph) { g.Nodes[0].Conns[:1][0].In = 1 },
		func(g api.Graph) { g.Nodes[1].Conns[:2][1].In = 1 },
		func(g api.Graph) { g.Nodes[0].Code[0].Arg = 1 },
	} {
		g := made()
		was := Spare(g)
		if !reflect.DeepEqual(Spare(g), was) {
			t.Error("the same is told otherwise")
		}
		write(g)
		if reflect.DeepEqual(Spare(g), was) {
			t.Errorf("writing %d isn't seen", i)
		}
	}
}
