package flow

import (
	"reflect"
	"slices"
	"sync"
	"testing"

	"sluice/api"
	"sluice/draws"
)

// roomy is the node as new memory, with room behind its lists.
func roomy(n api.Node) api.Node {
	return draws.Roomy(api.Graph{Nodes: []api.Node{n}}).Nodes[0]
}

// spare is such a node as new memory, with what stands behind its lists as their last.
func spare(n api.Node) api.Node {
	n.Code, n.Conns = slices.Clone(n.Code[:len(n.Code)+1]), slices.Clone(n.Conns[:len(n.Conns)+1])
	return n
}

// spoiled writes over the node's lists, and over the room behind them.
func spoiled(n api.Node, with api.Op) {
	for i := range n.Code[:cap(n.Code)] {
		n.Code[:cap(n.Code)][i] = with
	}
	for i := range n.Conns[:cap(n.Conns)] {
		n.Conns[:cap(n.Conns)][i] = api.Conn{In: 77, Out: 77, By: by(7, 7, 7)}
	}
}

// given are nodes of all kinds that may be and that may not.
func given() []api.Node {
	l := []api.Node{mapNode(), mapNode(op(9, 1)), mapNode(repeated(op(9, 1), 16)...), mapNode(repeated(op(9, 1), 17)...), mapNode(op(9, 1), op(3, 0)), filterNode(), filterNode(op(22, 0)), filterNode(repeated(op(22, 0), 16)...), filterNode(repeated(op(22, 0), 17)...), filterNode(op(22, 0), op(28, 1)), joinNode(), loopNode(by(1, 0, 0), 9), {}, {Kind: api.KSum, Code: ops(op(1, 1))}}
	for seed := range 200 {
		l = append(l, drawnNode(draws.Numbers(uint64(seed))))
	}
	return l
}

// told is what becomes of some records.
func told(f Flow) []ask {
	if f == nil {
		return nil
	}
	var l []ask
	for _, u := range []api.Time{at(0, 0, 0), at(1, 2, 3), at(63, 0, 1), at(last, half, 0)} {
		for _, r := range []api.Record{rec(0, 0), rec(3, 4), rec(5, 5), rec(half, 1), rec(1, last)} {
			later, s, ok := f.Do(u, r)
			l = append(l, ask{u: u, later: later, r: r, s: s, ok: ok})
		}
	}
	return l
}

func TestTheNodeStaysAsItWas(t *testing.T) { // P2
	for i, n := range given() {
		n = roomy(n)
		was := spare(n)
		f, _ := New(n)
		told(f)
		Kind(f)
		if !reflect.DeepEqual(spare(n), was) {
			t.Errorf("node %d is %v, was %v", i, spare(n), was)
		}
	}
}

func TestTheNodesListsAreCopied(t *testing.T) { // P21.1, P2
	for i, n := range given() {
		alone, _ := New(n)
		want := told(alone)
		for _, with := range ops(op(10, 77), op(23, 0), op(0, 0), op(-7, 7), op(3, 0)) {
			n := roomy(n)
			f, _ := New(n)
			kind := Kind(f)
			spoiled(n, with)
			if Kind(f) != kind || !slices.Equal(told(f), want) {
				t.Errorf("node %d: behind New %v is written over, and it is done otherwise", i, with)
			}
		}
	}
	code := ops(op(1, 9), op(5, 1))
	f := made(t, mapNode(code...))
	code[0].Arg = 8
	becomes(t, f, at(1, 0, 0), rec(3, 4), at(1, 0, 0), rec(9, 5))
	code = ops(op(26, 5))
	f = made(t, filterNode(code...))
	code[0] = op(24, 77)
	becomes(t, f, at(1, 0, 0), rec(3, 4), at(1, 0, 0), rec(3, 4))
}

func TestRoomBehindTheCodeIsNotLookedAt(t *testing.T) { // P3: not on a capacity
	for i, n := range given() {
		f, e := New(n)
		g, d := New(roomy(n))
		if d != e || Kind(f) != Kind(g) || !slices.Equal(told(f), told(g)) {
			t.Errorf("node %d: with room behind its lists it is made otherwise", i)
		}
	}
	full := repeated(op(9, 1), 20)[:16]
	becomes(t, made(t, mapNode(full...)), at(0, 0, 0), rec(3, 4), at(0, 0, 0), rec(19, 20))
}

func TestTwoHaveNothingToDoWithEachOther(t *testing.T) { // P5
	nodes := given()
	var flows []Flow
	var want [][]ask
	for _, n := range nodes {
		f, _ := New(n)
		flows, want = append(flows, f), append(want, told(f))
	}
	for i := range flows { // all others were made since, and asked
		place := len(flows) - 1 - i
		if !slices.Equal(told(flows[place]), want[place]) {
			t.Errorf("node %d is done otherwise", place)
		}
	}
	code := ops(op(9, 1))
	one := made(t, mapNode(code...))
	code[0] = op(9, 2)
	other := made(t, mapNode(code...))
	becomes(t, one, at(0, 0, 0), rec(3, 4), at(0, 0, 0), rec(4, 5))
	becomes(t, other, at(0, 0, 0), rec(3, 4), at(0, 0, 0), rec(5, 6))
}

func TestFlowsMayBeCompared(t *testing.T) { // P1: as a key, or by ==, no kind panics
	for _, n := range []api.Node{mapNode(op(1, 1)), filterNode(op(21, 1)), joinNode(), loopNode(by(1, 0, 0), 1)} {
		f := made(t, n)
		places := map[Flow]int{f: 7}
		if g := f; g != f || places[g] != 7 {
			t.Errorf("%v: it isn't the same as itself", n)
		}
	}
}

func TestManyAskAtOnce(t *testing.T) { // P3
	for i, n := range given() {
		f, _ := New(n)
		want, kind := told(f), Kind(f)
		var group sync.WaitGroup
		for range 8 {
			group.Go(func() {
				own, _ := New(n)
				if !slices.Equal(told(f), want) || !slices.Equal(told(own), want) || Kind(f) != kind {
					t.Errorf("node %d: many who ask are told otherwise", i)
				}
			})
		}
		group.Wait()
	}
}
