package draft

import (
	"bytes"
	"reflect"
	"runtime"
	"slices"
	"testing"

	"sluice/api"
	"sluice/draws"
)

func TestAGraphHandedInStaysAsItWas(t *testing.T) { // P8.4, P2
	g := draws.Roomy(all())
	was := draws.Spare(g)
	b := there(t, g)
	if !reflect.DeepEqual(draws.Spare(g), was) {
		t.Error("what was handed in is changed")
	}
	kept := bytes.Clone(b)
	for i := range g.Nodes {
		clear(g.Nodes[i].Code)
		clear(g.Nodes[i].Conns)
	}
	clear(g.Nodes)
	clear(g.Edges)
	if !bytes.Equal(b, kept) {
		t.Error("what was handed in is kept")
	}
	g = draws.Roomy(all())
	g.Edges[1].In = -1
	was = draws.Spare(g)
	fails(t, g, api.ErrEdge)
	if !reflect.DeepEqual(draws.Spare(g), was) {
		t.Error("what was handed in is changed beside an error")
	}
}

func TestBytesHandedInStayAsTheyWere(t *testing.T) { // P8.4, P2
	form := there(t, all())
	room := append(bytes.Clone(form), 7, 7, 7)
	was := bytes.Clone(room)
	g, e, _ := Get(room[:len(form)])
	if e != api.OK || !bytes.Equal(room, was) {
		t.Errorf("what was handed in is changed, or %d", e)
	}
	clear(room)
	if !same(g, all()) {
		t.Error("what was handed in is kept")
	}
}

func TestBytesHandedOutAreNewMemory(t *testing.T) { // P8.4, P2
	one, two := there(t, all()), there(t, all())
	grown := append(one, 1, 2, 3)
	clear(grown)
	if !bytes.Equal(two, there(t, all())) {
		t.Error("two answers share memory")
	}
}

// lists of a graph: one by one, to be written over and grown.
func lists(g api.Graph) []func() {
	var l []func()
	for i := range g.Nodes {
		n := g.Nodes[i]
		l = append(l, func() {
			clear(n.Code)
			grown := append(n.Code, api.Op{Kind: 99}, api.Op{Kind: 99})
			clear(grown[:cap(grown)])
		}, func() {
			clear(n.Conns)
			grown := append(n.Conns, api.Conn{In: 99}, api.Conn{In: 99})
			clear(grown[:cap(grown)])
		})
	}
	return append(l, func() {
		clear(g.Nodes)
		grown := append(g.Nodes, api.Node{Kind: 99})
		clear(grown[:cap(grown)])
	}, func() {
		clear(g.Edges)
		grown := append(g.Edges, api.Edge{From: 99})
		clear(grown[:cap(grown)])
	})
}

func TestListsOfAnAnswerAreEachItsOwn(t *testing.T) { // P8.4, P2
	want := all()
	want.Nodes = slices.Concat(want.Nodes, want.Nodes, want.Nodes)
	form := there(t, want)
	for i := range lists(want) {
		g, e, _ := Get(form)
		other, f, _ := Get(form)
		if e != api.OK || f != api.OK {
			t.Fatalf("%d, %d", e, f)
		}
		expect := cloned(g)
		lists(expect)[i]()
		lists(g)[i]()
		if !same(g, expect) || !same(other, want) {
			t.Errorf("list %d shares memory with another", i)
		}
	}
}

// taken is how many bytes of memory one Get of some bytes takes.
func taken(b []byte) int {
	const many = 2000
	var ahead, behind runtime.MemStats
	runtime.ReadMemStats(&ahead)
	for range many {
		Get(b)
	}
	runtime.ReadMemStats(&behind)
	return int(behind.TotalAlloc-ahead.TotalAlloc) / many
}

func TestMemoryIsTakenAsThingsAreRead(t *testing.T) { // P8.2
	for _, c := range []struct {
		ahead []byte
		most  byte
	}{{[]byte{1}, 24}, {[]byte{1, 0}, 48}, {[]byte{1, 1, 2}, 16}, {[]byte{1, 1, 8, 0}, 16}} {
		few, lots := taken(append(bytes.Clone(c.ahead), 1)), taken(append(bytes.Clone(c.ahead), c.most))
		if lots > few+100 {
			t.Errorf("% x: where one is told %d bytes are taken, where %d are told %d", c.ahead, few, c.most, lots)
		}
	}
}
