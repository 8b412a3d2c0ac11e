package world

import (
	"testing"

	"sluice/api"
)

// fills lets a worker send by an input till so many messages are outstanding; each sending makes one.
func fills(t *testing.T, w *World, self, node int, key uint64, many int) {
	t.Helper()
	for w.Outstanding() < many {
		if x := send(self, node, at(1), rec(key, 1)).of(w); x.e != api.OK {
			t.Fatalf("%d are outstanding: Send = %v", w.Outstanding(), x)
		}
	}
}

// full holds that a world is full: none of its workers may send, to whomever.
func full(t *testing.T, w *World, node int) {
	t.Helper()
	number(t, "outstanding", w.Outstanding(), api.MaxQueue)
	was := answersOf(w)
	for self := range w.Workers() {
		for to := range w.Workers() {
			a := send(self, node, at(1), rec(keyOf(to, w.Workers(), 0), 1))
			if x := a.of(w); !x.same(told{e: api.ErrFull}) {
				t.Errorf("%v = %v", a, x)
			}
		}
	}
	if answersOf(w) != was {
		t.Error("what was refused has changed something")
	}
}

func TestRoomOnLinksAndWaiting(t *testing.T) { // DOC.md, Room: whoever sent them, wherever they are
	for workers := 1; workers <= 3; workers++ {
		for from := range workers {
			for to := range workers {
				w := begin(t, trapped(), workers)
				fills(t, w, from, 0, keyOf(to, workers, 0), api.MaxQueue-1)
				if from != to {
					number(t, "messages", w.Messages(from, to), api.MaxQueue-1)
				} else {
					number(t, "waiting", w.Waiting(to, 1), api.MaxQueue-1)
				}
				other := (from + 1) % workers
				does(t, w, send(other, 0, at(1), rec(keyOf(other, workers, 0), 1)), ch(1, 1, 1))
				full(t, w, 0)
				if from == to {
					continue
				}
				// To be passed on makes no room, to be taken does.
				for range 5 {
					passes(t, w, pass(to, from), msg(1, at(1), rec(keyOf(to, workers, 0), 1)))
				}
				full(t, w, 0)
				many := int64(w.Waiting(to, 1))
				does(t, w, run(to, 1), ch(1, -many, 1))
				fills(t, w, other, 0, keyOf(from, workers, 0), api.MaxQueue)
				full(t, w, 0)
			}
		}
	}
	w := begin(t, trapped(), 2)
	fills(t, w, 0, 0, keyOf(1, 2, 0), api.MaxQueue)
	refuses(t, w, send(1, 0, at(1), rec(keyOf(1, 2, 0), 1)), api.ErrFull)
}

func TestRoomOfAllWorkers(t *testing.T) { // DOC.md, Room: of eight as of one
	w := begin(t, trapped(), api.MaxWorkers)
	for i := range api.MaxQueue {
		x := send(i%8, 0, at(1), rec(uint64(i), 1)).of(w)
		if x.e != api.OK {
			t.Fatalf("%d are outstanding: %v", i, x)
		}
	}
	number(t, "outstanding", w.Outstanding(), api.MaxQueue)
	for self := range 8 {
		for key := range uint64(16) {
			if x := send(self, 0, at(1), rec(key, 1)).of(w); !x.same(told{e: api.ErrFull}) {
				t.Errorf("Send = %v", x)
			}
		}
	}
	comes(t, w)
	number(t, "outstanding", w.Outstanding(), api.MaxQueue)
	refuses(t, w, send(7, 0, at(1), rec(1, 1)), api.ErrFull)
	for self := range 8 {
		if x := step(self).of(w); x.e != api.OK {
			t.Errorf("Step = %v", x)
		}
	}
	number(t, "outstanding", w.Outstanding(), 0)
	number(t, "caught", len(w.Caught(1)), api.MaxQueue)
}

// spread is an input with so many edges, each other one by keys, an input with one, and a free node with as many edges; places: 0 and 1 the inputs', 2 the free node's, from 3 on the probes'.
func spread(many int) api.Graph {
	g := nodes(input(), input(), free(true, 0, 1))
	for i := range many + 1 {
		g.Nodes = append(g.Nodes, trap())
		if i < many {
			g.Edges = append(g.Edges, api.Edge{From: 0, To: 3 + i, Keyed: i%2 == 0}, api.Edge{From: 2, To: 3 + i, Keyed: i%2 == 1})
		}
	}
	g.Edges = append(g.Edges, keyed(1, 3+many))
	return g
}

func TestRoomOfSeveralEdges(t *testing.T) { // DOC.md, Room: each edge's copy counts
	k := keyOf(1, 2, 0)
	for many := range 5 {
		for left := range 6 {
			for _, a := range []Act{send(0, 0, at(1), rec(k, 1)), emit(0, 1, at(1), rec(k, 1))} {
				w := begin(t, spread(many), 2)
				fills(t, w, 1, 1, keyOf(0, 2, 0), api.MaxQueue-left)
				if many > left {
					refuses(t, w, a, api.ErrFull)
					continue
				}
				var want []api.Change
				for i := range many {
					want = append(want, ch(3+i, 1, 1))
				}
				does(t, w, a, want...)
				number(t, "outstanding", w.Outstanding(), api.MaxQueue-left+many)
			}
		}
	}
}

// growing is a filter that lets nothing pass, a join that makes two of one, a map that leads to a later probe, and an input for each of them and for an earlier probe. Places: filter 0 1; probe 2; join 3 4; map 5 6; probe 7; probe 8; inputs 9 to 12.
func growing() api.Graph {
	g := nodes(filter(api.Op{Kind: 26}), trap(), join(1), mapper(), trap(), trap(), input(), input(), input(), input())
	g.Edges = []api.Edge{edge(6, 0), edge(7, 2), edge(8, 3), edge(9, 1), edge(2, 1), keyed(2, 5), edge(3, 4)}
	return g
}

func TestRoomOfASteps(t *testing.T) { // DOC.md, Room: behind the run of each node
	// Nothing but what goes on to a later node: as many are made as are taken.
	w := begin(t, growing(), 2)
	fills(t, w, 0, 8, 0, api.MaxQueue)
	does(t, w, run(0, 3), ch(5, -2048, 1), ch(7, 2048, 1))
	number(t, "outstanding", w.Outstanding(), api.MaxQueue)
	does(t, w, run(0, 4), ch(7, -2048, 1))
	number(t, "outstanding", w.Outstanding(), 0)

	for _, c := range []struct {
		goes, grow int // so many wait at the filter, and at the join
		late       bool
		e          api.Errno
	}{
		{0, 1, false, api.ErrFull}, {1, 1, false, api.OK}, {3, 4, false, api.ErrFull}, {4, 4, false, api.OK}, {40, 4, false, api.OK}, {0, 0, false, api.OK}, {5, 0, false, api.OK},
		// What a later node would take makes no room for an earlier one.
		{0, 1, true, api.ErrFull}, {1, 1, true, api.OK},
	} {
		w := begin(t, growing(), 2)
		fills(t, w, 0, 6, 0, c.goes)
		fills(t, w, 0, 7, 0, c.goes+c.grow)
		// What else is outstanding waits at the other worker, or, late, at the map.
		self, node := 1, 9
		if c.late {
			self, node = 0, 8
		}
		fills(t, w, self, node, 0, api.MaxQueue)
		if c.e != api.OK {
			refuses(t, w, step(0), c.e)
			refuses(t, w, run(0, 2), c.e)
			number(t, "outstanding", w.Outstanding(), api.MaxQueue)
			continue
		}
		if x := step(0).of(w); x.e != api.OK {
			t.Errorf("%v: Step = %v", c, x)
		}
		number(t, "waiting at 0", w.Waiting(0, 0), 0)
		number(t, "waiting at 3", w.Waiting(0, 3), 0)
		number(t, "waiting at the earlier probe", w.Waiting(0, 2), c.grow)
	}
}

func TestWhatMakesNoneIsDoneInAFullWorld(t *testing.T) { // DOC.md, Room
	w := begin(t, kinds(), 2)
	fill := nodes(append(w.Graph().Raw().Nodes, input(), trap())...)
	fill.Edges = append(w.Graph().Raw().Edges, keyed(8, 9))
	w = begin(t, fill, 2)
	k := keyOf(1, 2, 0)
	does(t, w, send(0, 0, at(2), rec(keyOf(0, 2, 0), 1)), ch(1, 1, 2), ch(13, 1, 2))
	fills(t, w, 0, 8, k, api.MaxQueue)
	full(t, w, 8)
	refuses(t, w, emit(0, 1, at(), rec(1, 1)), api.ErrFull)
	refuses(t, w, send(0, 0, at(), rec(1, 1)), api.ErrFull)
	does(t, w, advance(0, 0, at(1)), ch(0, -1, 0), ch(0, 1, 1))
	does(t, w, shut(1, 0), ch(0, -1, 0))
	mints(t, does(t, w, clone(0, 1), ch(14, 1, 0)), api.Message{}, 2)
	does(t, w, lower(0, 2, at(1)), ch(14, -1, 0), ch(14, 1, 1))
	does(t, w, drop(0, 2), ch(14, -1, 1))
	does(t, w, hear(1, 0), ch(1, 1, 2), ch(13, 1, 2))
	passes(t, w, pass(1, 0), msg(16, at(1), rec(k, 1)))
	does(t, w, run(0, 6))
	full(t, w, 8)
	does(t, w, run(1, 9), ch(16, -1, 1))
	number(t, "outstanding", w.Outstanding(), api.MaxQueue-1)
	mints(t, does(t, w, take(0, 13), ch(13, -1, 2), ch(14, 1, 2)), msg(13, at(2), rec(keyOf(0, 2, 0), 1)), 3)
	number(t, "outstanding", w.Outstanding(), api.MaxQueue-2)
	does(t, w, emit(0, 1, at(), rec(1, 1)), ch(12, 1, 0))
	does(t, w, emit(0, 1, at(), rec(1, 1)), ch(12, 1, 0))
	full(t, w, 8)
}
