package worker

import (
	"math"
	"testing"

	"sluice/api"
	"sluice/route"
)

// others are numbers that are no nodes of so many.
func others(many int) []int { return []int{-1, many, many + 1, math.MaxInt, math.MinInt} }

// kinds has a node of each kind, by rising kinds, so that the node i has the kind i + 1: in-places 1, 3, 5 and 6, 8, 10, 12, 13.
func kinds() api.Graph {
	return nodes(input(), mapper(), filter(), join(2), loop(by(1), 9), sum(), trap(), free(true, 1, 1, api.Conn{}))
}

func TestSend(t *testing.T) { // P25.2
	g := api.Graph{Arity: 2, Nodes: []api.Node{trap(), input(), trap(), trap(), input()}, Edges: []api.Edge{keyed(1, 3), edge(1, 2), keyed(4, 0), keyed(1, 0)}}
	for _, key := range []uint64{keyOf(0, 2, 0), keyOf(0, 2, 1)} {
		w := begin(t, g, 2, 0)
		goes(t, does(t, w, send(1, at(3, 1), rec(key, 5), 3), ch(0, 1, 3, 1), ch(2, 1, 3, 1), ch(3, 1, 3, 1)))
		step(0).of(w)
		for _, node := range []int{0, 2, 3} {
			catches(t, w, node, caught(at(3, 1), key, 5))
		}
		w = begin(t, g, 2, 1)
		x := does(t, w, send(1, at(3, 1), rec(key, 5), 3), ch(0, 1, 3, 1), ch(2, 1, 3, 1), ch(3, 1, 3, 1))
		goes(t, x, route.Out{M: msg(3, at(3, 1), key, 5)}, route.Out{M: msg(0, at(3, 1), key, 5)})
		waits(t, w, 2, 1)
		waits(t, w, 0, 0)
		waits(t, w, 3, 0)
		tokens(t, w, ch(1, 1, 0), ch(2, 1, 3, 1), ch(4, 1, 0))
		fronts(t, w, 2, at())
	}
}

func TestSendFromSeveralEpochs(t *testing.T) { // P25.2
	w := alone(t, api.Graph{Arity: 3, Nodes: []api.Node{input(), input()}})
	goes(t, does(t, w, send(0, at(last, last, last), rec(1, 1), 0)))
	does(t, w, advance(0, at(2, 0, 5)), ch(0, -1, 0), ch(0, 1, 2, 0, 5))
	does(t, w, send(0, at(2, 0, 5), rec(1, 1), 0))
	for _, u := range [][]uint64{{1, 9, 9}, {2, 9, 4}, {last, last, 4}, {}} {
		refuses(t, w, send(0, at(u...), rec(1, 1), 0), api.ErrEpoch)
		refuses(t, w, advance(0, at(u...)), api.ErrEpoch)
	}
	does(t, w, send(1, at(), rec(1, 1), 0))
	does(t, w, advance(0, at(2, 7, 5)), ch(0, -1, 2, 0, 5), ch(0, 1, 2, 7, 5))
	does(t, w, advance(0, at(2, 7, 5)))
	does(t, w, advance(0, at(last, last, last)), ch(0, -1, 2, 7, 5), ch(0, 1, last, last, last))
	does(t, w, send(0, at(last, last, last), rec(1, 1), 0))
	if epoch, open := w.Epoch(0); epoch != at(last, last, last) || !open {
		t.Errorf("Epoch = %v, %v", epoch, open)
	}
	does(t, w, shut(0), ch(0, -1, last, last, last))
	if epoch, open := w.Epoch(0); epoch != at() || open {
		t.Errorf("Epoch of a closed one = %v, %v", epoch, open)
	}
	tokens(t, w, ch(1, 1, 0))
}

func TestWhatSendIsRefusedBy(t *testing.T) { // P25.2, P25.8, P4
	w := alone(t, summed())
	does(t, w, advance(0, at(5)), ch(0, -1, 0), ch(0, 1, 5))
	hears(t, w, ch(1, most, 4), ch(1, most, 5))
	for _, node := range append(others(3), 1, 2) {
		refuses(t, w, send(node, at(0, 1), rec(1, 1), 0), api.ErrNode)
	}
	refuses(t, w, send(0, at(0, 1), rec(1, 1), 0), api.ErrArity)
	refuses(t, w, send(0, at(9, 0, 1), rec(1, 1), 9), api.ErrArity)
	refuses(t, w, send(0, at(4), rec(1, 1), 0), api.ErrEpoch)
	refuses(t, w, send(0, at(5), rec(1, 1), 0), api.ErrFull)
	refuses(t, w, send(0, at(5), rec(1, 1), math.MinInt), api.ErrFull)
	refuses(t, w, send(0, at(5), rec(1, 1), 1), api.ErrRange)
	does(t, w, send(0, at(6), rec(1, 1), 1), ch(1, 1, 6))
	does(t, w, shut(0), ch(0, -1, 5))
	for _, node := range append(others(3), 1, 2) {
		refuses(t, w, send(node, at(0, 1), rec(1, 1), 0), api.ErrNode)
	}
	refuses(t, w, send(0, at(0, 1), rec(1, 1), 0), api.ErrArity)
	refuses(t, w, send(0, at(4), rec(1, 1), 0), api.ErrClosed)
	refuses(t, w, send(0, at(5), rec(1, 1), 9), api.ErrClosed)
}

func TestWhatAdvanceIsRefusedBy(t *testing.T) { // P25.2, P25.8, P4
	w := alone(t, summed())
	does(t, w, advance(0, at(5)), ch(0, -1, 0), ch(0, 1, 5))
	hears(t, w, ch(0, most, 4), ch(0, most, 6))
	for _, node := range append(others(3), 1, 2) {
		refuses(t, w, advance(node, at(0, 1)), api.ErrNode)
	}
	refuses(t, w, advance(0, at(0, 1)), api.ErrArity)
	refuses(t, w, advance(0, at(4)), api.ErrEpoch)
	refuses(t, w, advance(0, at(6)), api.ErrRange)
	does(t, w, advance(0, at(5)))
	does(t, w, advance(0, at(7)), ch(0, -1, 5), ch(0, 1, 7))
	hears(t, w, ch(0, -most, 7))
	hears(t, w, ch(0, -1, 7))
	refuses(t, w, advance(0, at(8)), api.ErrRange)
	does(t, w, advance(0, at(7)))
	refuses(t, w, shut(0), api.ErrRange)
	hears(t, w, ch(0, 1, 7))
	does(t, w, shut(0), ch(0, -1, 7))
	refuses(t, w, advance(1, at(0, 1)), api.ErrNode)
	refuses(t, w, advance(0, at(0, 1)), api.ErrArity)
	refuses(t, w, advance(0, at(4)), api.ErrClosed)
	refuses(t, w, advance(0, at(9)), api.ErrClosed)
}

func TestWhatCloseIsRefusedBy(t *testing.T) { // P25.2, P25.8, P4
	w := alone(t, kinds())
	for _, node := range append(others(8), 1, 2, 3, 4, 5, 6, 7) {
		refuses(t, w, shut(node), api.ErrNode)
	}
	does(t, w, shut(0), ch(0, -1, 0))
	refuses(t, w, shut(0), api.ErrClosed)
	refuses(t, w, shut(1), api.ErrNode)
}

func TestInputsOfEachKindOfNode(t *testing.T) { // P25.2
	w := alone(t, kinds())
	for node := 1; node < 8; node++ {
		refuses(t, w, send(node, at(), rec(1, 1), 9), api.ErrNode)
		refuses(t, w, advance(node, at(1)), api.ErrNode)
		if epoch, open := w.Epoch(node); epoch != at() || open {
			t.Errorf("Epoch(%d) = %v, %v", node, epoch, open)
		}
	}
	does(t, w, send(0, at(), rec(1, 1), 0))
}

func TestTwoInputs(t *testing.T) { // P25.2
	w := begin(t, nodes(input(), input()), 4, 2)
	does(t, w, advance(1, at(3)), ch(1, -1, 0), ch(1, 1, 3))
	does(t, w, shut(0), ch(0, -1, 0))
	does(t, w, send(1, at(3), rec(1, 1), 0))
	refuses(t, w, send(1, at(2), rec(1, 1), 0), api.ErrEpoch)
	refuses(t, w, send(0, at(2), rec(1, 1), 0), api.ErrClosed)
	counts(t, w, ch(0, 3, 0), ch(1, 3, 0), ch(1, 1, 3))
	tokens(t, w, ch(1, 1, 3))
}
