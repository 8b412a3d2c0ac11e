package world

import (
	"testing"

	"sluice/api"
	"sluice/draws"
)

// These are those of DOC.md's ten examples of the whole that speak of a world, by their numbers there.

func TestTheThirdOfTheWhole(t *testing.T) {
	w := begin(t, summed(), 1)
	does(t, w, send(0, 0, at(), rec(7, 5)), ch(1, 1, 0))
	does(t, w, send(0, 0, at(), rec(7, 3)), ch(1, 1, 0))
	does(t, w, step(0), ch(1, -2, 0), ch(2, 1, 0))
	fronts(t, w, 0, 3, at())
	does(t, w, step(0))
	catches(t, w, 2)
	does(t, w, advance(0, 0, at(1)), ch(0, -1, 0), ch(0, 1, 1))
	does(t, w, step(0), ch(2, -1, 0))
	catches(t, w, 2, caught(at(), rec(7, 8)))
	fronts(t, w, 0, 3, at(1))
	onLink(t, w, 0, 0, 0, 0)
}

func TestTheFourthOfTheWhole(t *testing.T) { // P6: the use of a message is heard ahead of its making
	w := begin(t, trapped(), 3)
	n, m := rec(keyOf(1, 3, 0), 1), rec(keyOf(1, 3, 1), 2)
	does(t, w, send(0, 0, at(), n), ch(1, 1, 0))
	does(t, w, advance(0, 0, at(1)), ch(0, -1, 0), ch(0, 1, 1))
	does(t, w, advance(1, 0, at(1)), ch(0, -1, 0), ch(0, 1, 1))
	does(t, w, hear(1, 0), ch(1, 1, 0))
	does(t, w, hear(1, 0), ch(0, -1, 0), ch(0, 1, 1))
	does(t, w, hear(0, 1), ch(0, -1, 0), ch(0, 1, 1))
	does(t, w, send(2, 0, at(), m), ch(1, 1, 0))
	does(t, w, shut(2, 0), ch(0, -1, 0))
	passes(t, w, pass(1, 2), msg(1, at(), m))
	does(t, w, run(1, 1), ch(1, -1, 0))
	does(t, w, hear(0, 1), ch(1, -1, 0))
	counts(t, w, 0, ch(0, 1, 0), ch(0, 2, 1))
	number(t, "n is on the link", w.Messages(0, 1), 1)
	fronts(t, w, 0, 1, at())
	safe(t, w)
	does(t, w, hear(0, 2), ch(1, 1, 0))
	counts(t, w, 0, ch(0, 1, 0), ch(0, 2, 1), ch(1, 1, 0))
	safe(t, w)
	does(t, w, hear(0, 2), ch(0, -1, 0))
	counts(t, w, 0, ch(0, 2, 1), ch(1, 1, 0))
	fronts(t, w, 0, 1, at())
	safe(t, w)
	tokens(t, w, ch(0, 2, 1), ch(1, 1, 0))
	catches(t, w, 1, caught(at(), m))
}

// steps steps till no token is left, at so many workers all that is on links being heard and passed on ahead of each one.
func steps(t *testing.T, w *World) {
	t.Helper()
	for round := 0; len(w.Tokens()) > 0; round++ {
		if round > 200 {
			t.Fatalf("it doesn't end: %v", w.Tokens())
		}
		comes(t, w)
		for self := range w.Workers() {
			if x := step(self).of(w); x.e != api.OK {
				t.Fatalf("step of %d: %d", self, x.e)
			}
		}
	}
	comes(t, w)
}

// comes lets all that is on links be heard and passed on.
func comes(t *testing.T, w *World) {
	t.Helper()
	for from := range w.Workers() {
		for to := range w.Workers() {
			for w.Batches(from, to) > 0 {
				if x := hear(to, from).of(w); x.e != api.OK {
					t.Fatalf("hear from %d to %d: %d", from, to, x.e)
				}
			}
			for w.Messages(from, to) > 0 {
				if x := pass(to, from).of(w); x.e != api.OK {
					t.Fatalf("pass from %d to %d: %d", from, to, x.e)
				}
			}
		}
	}
}

// shuts closes all inputs at all workers.
func shuts(w *World) {
	for self := range w.Workers() {
		for node := range w.Graph().Nodes() {
			w.Do(shut(self, node))
		}
	}
}

func TestTheFifthOfTheWhole(t *testing.T) {
	for workers := 1; workers <= api.MaxWorkers; workers++ {
		w := begin(t, draws.Ring(), workers)
		r := rec(4, 4)
		does(t, w, send(workers-1, 0, at(), r), ch(1, 1, 0))
		shuts(w)
		steps(t, w)
		catches(t, w, 3, caught(at(), r), caught(at(1), r), caught(at(2), r))
		w = begin(t, draws.Ring(), workers)
		does(t, w, send(0, 0, at(7), r), ch(1, 1, 7))
		shuts(w)
		steps(t, w)
		catches(t, w, 3, caught(at(7), r))
	}
}

// summedRing is input 0, join 1 2 3, sum 4 5, loop 6 7, probe 8: the sum stands between the join and all that is behind it.
func summedRing() api.Graph {
	return api.Graph{Arity: 1, Nodes: []api.Node{input(), join(2), sum(), loop(by(1), 2), trap()}, Edges: []api.Edge{edge(0, 1), keyed(1, 2), edge(2, 3), {From: 3, To: 1, In: 1}, edge(2, 4)}}
}

func TestTheSixthOfTheWhole(t *testing.T) {
	for workers := 1; workers <= api.MaxWorkers; workers++ {
		w := begin(t, summedRing(), workers)
		does(t, w, send(0, 0, at(1), rec(1, 5)), ch(1, 1, 1))
		does(t, w, send(workers-1, 0, at(), rec(1, 4)), ch(1, 1, 0))
		shuts(w)
		steps(t, w)
		catches(t, w, 4, caught(at(), rec(1, 4)), caught(at(1), rec(1, 9)), caught(at(2), rec(1, 9)))
	}
	// The sum of 1 is told only when 0 is done ahead of it.
	w := begin(t, summedRing(), 1)
	does(t, w, send(0, 0, at(1), rec(1, 5)), ch(1, 1, 1))
	does(t, w, send(0, 0, at(), rec(1, 4)), ch(1, 1, 0))
	does(t, w, shut(0, 0), ch(0, -1, 0))
	does(t, w, step(0), ch(1, -1, 0), ch(1, -1, 1), ch(5, 1, 0), ch(5, 1, 1))
	does(t, w, step(0), ch(2, 1, 1), ch(5, -1, 0))
	catches(t, w, 4, caught(at(), rec(1, 4)))
	does(t, w, step(0), ch(2, -1, 1))
	does(t, w, step(0), ch(2, 1, 2), ch(5, -1, 1))
	catches(t, w, 4, caught(at(), rec(1, 4)), caught(at(1), rec(1, 9)))
}

func TestTheSeventhOfTheWhole(t *testing.T) {
	w := begin(t, row(free(true, 0, 1), trap()), 2)
	is(t, "Held", w.Held(0), held(1, 0, 0))
	does(t, w, drop(1, 1), ch(0, -1, 0))
	does(t, w, hear(0, 1), ch(0, -1, 0))
	does(t, w, emit(0, 1, at(4), rec(1, 1)), ch(1, 1, 4))
	is(t, "Held", w.Held(0), held(1, 0, 0))
	open := func(from uint64) {
		t.Helper()
		for _, place := range []int{0, 1} {
			if !w.Open(0, place, at(from)) || from > 0 && w.Open(0, place, at(from-1)) {
				t.Errorf("the front of %d: %v, want %d", place, w.Front(0, place), from)
			}
		}
	}
	open(0)
	does(t, w, run(0, 1), ch(1, -1, 4))
	open(0)
	does(t, w, lower(0, 1, at(6)), ch(0, -1, 0), ch(0, 1, 6))
	open(6)
	refuses(t, w, emit(0, 1, at(4), rec(1, 1)), api.ErrBack)
	does(t, w, drop(0, 1), ch(0, -1, 6))
	for _, a := range []Act{emit(0, 1, at(9), rec(1, 1)), lower(0, 1, at(9)), clone(0, 1), drop(0, 1)} {
		refuses(t, w, a, api.ErrCap)
	}
	fronts(t, w, 0, 0)
	fronts(t, w, 0, 1)
}

func TestTheEighthOfTheWhole(t *testing.T) {
	w := begin(t, summed(), 2)
	does(t, w, shut(0, 0), ch(0, -1, 0))
	does(t, w, advance(1, 0, at(3)), ch(0, -1, 0), ch(0, 1, 3))
	for place := range 4 {
		fronts(t, w, 0, place, at())
	}
	does(t, w, hear(0, 1), ch(0, -1, 0), ch(0, 1, 3))
	for place := range 4 {
		fronts(t, w, 0, place, at(3))
		fronts(t, w, 1, place, at())
	}
}

// narrow is an input whose records go to a filter that lets the key 7 pass, to so many probes; another input has two edges, a third one has one.
func narrow(traps int) api.Graph {
	g := nodes(input(), filter(api.Op{Kind: 21, Arg: 7}), input(), input())
	g.Edges = []api.Edge{edge(0, 1)}
	for i := range traps {
		g.Nodes = append(g.Nodes, trap())
		g.Edges = append(g.Edges, edge(1, 4+i))
	}
	g.Edges = append(g.Edges, edge(2, 4), edge(2, 5), edge(3, 4))
	return g
}

func TestTheNinthOfTheWhole(t *testing.T) { // DOC.md, Room
	for _, traps := range []int{11, 12} {
		w := begin(t, narrow(traps), 1)
		for i := range uint64(10) {
			does(t, w, send(0, 0, at(2), rec(i, i)), ch(1, 1, 2))
		}
		for range 2037 {
			send(0, 3, at(), rec(7, 7)).of(w)
		}
		number(t, "outstanding", w.Outstanding(), 2047)
		refuses(t, w, send(0, 2, at(), rec(1, 1)), api.ErrFull)
		if traps == 12 {
			refuses(t, w, run(0, 1), api.ErrFull)
			number(t, "outstanding", w.Outstanding(), 2047)
			continue
		}
		v := w.Copy()
		does(t, v, send(0, 3, at(), rec(1, 1)), ch(5, 1, 0))
		number(t, "outstanding", v.Outstanding(), 2048)
		refuses(t, v, run(0, 1), api.ErrFull)
		if x := run(0, 1).of(w); x.e != api.OK || len(x.Changes) != 12 {
			t.Errorf("a run that takes 10 and makes 11: %v", x)
		}
		number(t, "outstanding", w.Outstanding(), 2048)
		refuses(t, w, send(0, 3, at(), rec(1, 1)), api.ErrFull)
	}
}
