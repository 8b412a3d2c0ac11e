package worker

import (
	"math"
	"testing"

	"sluice/api"
	"sluice/route"
)

func TestNodesThatAreRun(t *testing.T) { // P25.5, P4
	w := alone(t, kinds())
	for _, m := range []api.Message{msg(1, at(), 1, 1), msg(3, at(), 1, 1), msg(5, at(), 1, 1), msg(6, at(), 1, 1), msg(8, at(), 1, 1), msg(10, at(), 1, 1), msg(12, at(), 1, 1), msg(13, at(), 1, 1)} {
		passes(t, w, m)
	}
	for _, node := range append(others(8), 0, 7) {
		refuses(t, w, run(node, wide), api.ErrNode)
		refuses(t, w, run(node, math.MinInt), api.ErrNode)
	}
	does(t, w, run(1, 0), ch(1, -1, 0))
	does(t, w, run(3, 0), ch(5, -1, 0), ch(6, -1, 0))
	does(t, w, step(0), ch(3, -1, 0), ch(8, -1, 0), ch(10, -1, 0), ch(12, -1, 0))
	does(t, w, step(0))
	waits(t, w, 13, 1)
	for node := 1; node < 7; node++ {
		does(t, w, run(node, 0))
	}
	tokens(t, w, ch(0, 1, 0), ch(13, 1, 0), ch(14, 1, 0))
}

// relay is what a node makes of messages, at a worker 0 of two: it leads along a keyed edge to a probe, so that of records whose key is worker 1's Out tells all, as they were made.
func relay(t *testing.T, n api.Node, l ...api.Message) []route.Out {
	t.Helper()
	w := begin(t, api.Graph{Arity: 2, Nodes: []api.Node{n, trap()}, Edges: []api.Edge{keyed(0, 1)}}, 2, 0)
	passes(t, w, l...)
	x := run(0, wide).of(w)
	if x.e != api.OK {
		t.Errorf("Run = %d", x.e)
	}
	for place := range n.Ins {
		waits(t, w, place, 0)
	}
	return x.done.Out
}

func TestMapsAndFilters(t *testing.T) { // P25.5: How records flow
	one, two := keyOf(1, 2, 0), keyOf(1, 2, 1)
	is(t, "a map", relay(t, mapper(api.Op{Kind: 1, Arg: two}, api.Op{Kind: 5, Arg: 3}), msg(0, at(4, 1), 1, 6), msg(0, at(last, last), 2, last)),
		route.Out{Worker: 1, M: msg(2, at(4, 1), two, 9)}, route.Out{Worker: 1, M: msg(2, at(last, last), two, 2)})
	is(t, "a map without code", relay(t, mapper(), msg(0, at(4, 1), one, 6)), route.Out{Worker: 1, M: msg(2, at(4, 1), one, 6)})
	is(t, "a filter", relay(t, filter(api.Op{Kind: 26, Arg: 6}), msg(0, at(4), one, 5), msg(0, at(3), one, 6), msg(0, at(2), two, 0)),
		route.Out{Worker: 1, M: msg(2, at(4), one, 5)}, route.Out{Worker: 1, M: msg(2, at(2), two, 0)})
	is(t, "a filter without code", relay(t, filter(), msg(0, at(4), one, 6)), route.Out{Worker: 1, M: msg(2, at(4), one, 6)})
}

func TestJoins(t *testing.T) { // P25.5: in-place by in-place, each in the order in which they began to wait
	key := keyOf(1, 2, 0)
	l := relay(t, join(4), msg(2, at(0), key, 1), msg(0, at(9), key, 2), msg(3, at(4), key, 3), msg(0, at(1), key, 4), msg(2, at(0), key, 1), msg(0, at(5), key, 5))
	is(t, "a join", l,
		route.Out{Worker: 1, M: msg(5, at(9), key, 2)}, route.Out{Worker: 1, M: msg(5, at(1), key, 4)}, route.Out{Worker: 1, M: msg(5, at(5), key, 5)},
		route.Out{Worker: 1, M: msg(5, at(0), key, 1)}, route.Out{Worker: 1, M: msg(5, at(0), key, 1)}, route.Out{Worker: 1, M: msg(5, at(4), key, 3)})
}

func TestLoops(t *testing.T) { // P25.5: at, below and above the Bound; of the numbers at which By isn't 0 alone
	key := keyOf(1, 2, 0)
	for _, c := range []struct {
		n        api.Node
		is, will api.Time
		goesOn   bool
	}{
		{loop(by(1), 3), at(1), at(2), true},
		{loop(by(1), 3), at(2), at(3), true},
		{loop(by(1), 3), at(3), at(), false},
		{loop(by(1), 3), at(2, 99), at(3, 99), true},
		{loop(by(0, 2), 3), at(99, 1), at(99, 3), true},
		{loop(by(0, 2), 3), at(99, 2), at(), false},
		{loop(by(1, 1), 3), at(0, 3), at(), false},
		{loop(by(1, 1), 3), at(3, 0), at(), false},
		{loop(by(1, 1), 3), at(2, 2), at(3, 3), true},
		{loop(by(4), 3), at(0), at(), false},
		{loop(by(last), api.MaxBound), at(1), at(), false},
		{loop(by(1), 0), at(last), at(), false},
		{loop(by(), 0), at(7, 9), at(7, 9), true},
		{loop(by(), 0), at(last, last), at(last, last), true},
	} {
		l := relay(t, c.n, msg(0, c.is, key, 5))
		if c.goesOn {
			is(t, "a loop", l, route.Out{Worker: 1, M: msg(2, c.will, key, 5)})
		} else {
			is(t, "a loop", l)
		}
	}
}

func TestAProbe(t *testing.T) { // P25.5, P25.7
	g := row(input(), trap())
	g.Nodes = append(g.Nodes, trap())
	w := alone(t, g)
	passes(t, w, msg(2, at(1), 5, 5))
	does(t, w, send(0, at(3), rec(7, 7), 1), ch(1, 1, 3))
	does(t, w, send(0, at(3), rec(7, 7), 1), ch(1, 1, 3))
	does(t, w, send(0, at(1), rec(8, 8), 1), ch(1, 1, 1))
	catches(t, w, 1)
	does(t, w, run(1, 0), ch(1, -1, 1), ch(1, -2, 3))
	catches(t, w, 1, caught(at(1), 8, 8), caught(at(3), 7, 7), caught(at(3), 7, 7))
	catches(t, w, 2)
	does(t, w, step(0), ch(2, -1, 1))
	catches(t, w, 2, caught(at(1), 5, 5))
	catches(t, w, 1, caught(at(1), 8, 8), caught(at(3), 7, 7), caught(at(3), 7, 7))
}

func TestAStepGoesByRisingNumbers(t *testing.T) { // P25.5
	// The input leads to node 3, that to 1, 4 and 3's own loop; 1 to the probe 2, 4 to the probe 5.
	g := nodes(input(), mapper(), trap(), join(2), mapper(), trap(), loop(by(1), 1))
	g.Edges = []api.Edge{edge(0, 3), edge(3, 1), edge(3, 4), edge(1, 2), edge(4, 5), edge(3, 6), {From: 6, To: 3, In: 1}}
	// Places: 0; 1 2; 3; 4 5 6; 7 8; 9; 10 11.
	w := alone(t, g)
	does(t, w, send(0, at(), rec(1, 1), 1), ch(4, 1, 0))
	does(t, w, step(wide), ch(1, 1, 0), ch(4, -1, 0), ch(5, 1, 1))
	catches(t, w, 2)
	catches(t, w, 5, caught(at(), 1, 1))
	does(t, w, step(wide), ch(1, -1, 0), ch(1, 1, 1), ch(5, -1, 1))
	catches(t, w, 2, caught(at(), 1, 1))
	catches(t, w, 5, caught(at(), 1, 1), caught(at(1), 1, 1))
	does(t, w, step(wide), ch(1, -1, 1))
	does(t, w, step(wide))
	tokens(t, w, ch(0, 1, 0))
}

func TestWhatANodeSendsToItselfWaits(t *testing.T) { // P25.5
	// A loop into itself: in-place 0, out-place 1; and to a probe 2.
	g := nodes(loop(by(1), 3), trap())
	g.Edges = []api.Edge{edge(0, 0), edge(0, 1)}
	w := alone(t, g)
	passes(t, w, msg(0, at(), 1, 1), msg(0, at(2), 2, 2))
	does(t, w, step(wide), ch(0, -1, 0), ch(0, 1, 1), ch(0, -1, 2), ch(0, 1, 3))
	does(t, w, run(0, 1), ch(0, -1, 1), ch(0, 1, 2), ch(0, -1, 3), ch(2, 1, 2))
	does(t, w, step(1), ch(0, -1, 2), ch(0, 1, 3), ch(2, -1, 2))
	does(t, w, step(0), ch(0, -1, 3))
	catches(t, w, 1, caught(at(1), 1, 1), caught(at(2), 1, 1), caught(at(3), 1, 1), caught(at(3), 2, 2))
}

func TestOutIsInTheOrderOfMaking(t *testing.T) { // P25.2, P25.5
	// Places: 0 1; 2 3; 4; 5; 6.
	g := api.Graph{Arity: 1, Nodes: []api.Node{mapper(), mapper(api.Op{Kind: 5, Arg: 1}), trap(), trap(), trap()}, Edges: []api.Edge{keyed(0, 4), keyed(0, 2), edge(0, 1), edge(1, 4), keyed(1, 3), keyed(1, 2)}}
	zero, one, two := keyOf(0, 3, 0), keyOf(1, 3, 0), keyOf(2, 3, 0)
	for self := range 3 {
		w := begin(t, g, 3, self)
		passes(t, w, msg(2, at(9), two, 4), msg(0, at(5), one, 0), msg(0, at(4), zero, 0), msg(0, at(5), two, 0), msg(2, at(7), one, 4))
		x := step(wide).of(w)
		var want []route.Out
		kept := map[int]int{}
		leaves := func(key uint64, m api.Message) {
			if to := route.To(key, 3); to != self {
				want = append(want, route.Out{Worker: to, M: m})
			} else {
				kept[m.At]++
			}
		}
		for _, m := range []api.Message{msg(0, at(5), one, 0), msg(0, at(4), zero, 0), msg(0, at(5), two, 0)} {
			leaves(m.R.Key, msg(6, m.T, m.R.Key, 0))
			leaves(m.R.Key, msg(4, m.T, m.R.Key, 0))
		}
		for _, m := range []api.Message{msg(2, at(9), two, 5), msg(2, at(7), one, 5), msg(2, at(5), one, 1), msg(2, at(4), zero, 1), msg(2, at(5), two, 1)} {
			kept[6]++
			leaves(m.R.Key, msg(5, m.T, m.R.Key, m.R.Val))
			leaves(m.R.Key, msg(4, m.T, m.R.Key, m.R.Val))
		}
		goes(t, x, want...)
		for place, node := range map[int]int{4: 2, 5: 3, 6: 4} {
			if n := len(w.Caught(node)); n != kept[place] {
				t.Errorf("worker %d: %d came to the probe %d, want %d", self, n, node, kept[place])
			}
		}
	}
}

func TestOneWorkerSendsNothingOut(t *testing.T) { // P25.5
	w := alone(t, row(input(), mapper(), sum(), trap()))
	for key := range uint64(20) {
		goes(t, does(t, w, send(0, at(), rec(key, 1), wide), ch(1, 1, 0)))
	}
	does(t, w, shut(0), ch(0, -1, 0))
	goes(t, does(t, w, step(wide), ch(1, -20, 0), ch(4, 1, 0)))
	goes(t, does(t, w, step(wide), ch(4, -1, 0)))
	if n := len(w.Caught(3)); n != 20 {
		t.Errorf("%d are caught", n)
	}
}
