package world

import (
	"slices"
	"testing"

	"sluice/api"
)

func TestTokensAreAllWorkers(t *testing.T) { // P26.5: what stands at all of them, and what is on links
	// Places: input 0; sum 1 2; free 3 4; probe 5.
	g := nodes(input(), sum(), free(true, 1, 1, api.Conn{}), trap())
	g.Edges = []api.Edge{keyed(0, 1), keyed(0, 2), keyed(0, 3)}
	w := begin(t, g, 3)
	tokens(t, w, ch(0, 3, 0), ch(4, 3, 0))
	k := [3]uint64{keyOf(0, 3, 0), keyOf(1, 3, 0), keyOf(2, 3, 0)}
	does(t, w, send(0, 0, at(4), rec(k[0], 1)), ch(1, 1, 4), ch(3, 1, 4), ch(5, 1, 4))
	does(t, w, send(0, 0, at(4), rec(k[1], 1)), ch(1, 1, 4), ch(3, 1, 4), ch(5, 1, 4))
	does(t, w, send(1, 0, at(3), rec(k[2], 1)), ch(1, 1, 3), ch(3, 1, 3), ch(5, 1, 3))
	tokens(t, w, ch(0, 3, 0), ch(1, 1, 3), ch(1, 2, 4), ch(3, 1, 3), ch(3, 2, 4), ch(4, 3, 0), ch(5, 1, 3), ch(5, 2, 4))
	// Passed on, they are what they were.
	comes(t, w)
	tokens(t, w, ch(0, 3, 0), ch(1, 1, 3), ch(1, 2, 4), ch(3, 1, 3), ch(3, 2, 4), ch(4, 3, 0), ch(5, 1, 3), ch(5, 2, 4))
	// Each worker's sum has a capability of its own at the same time.
	does(t, w, step(0), ch(1, -1, 4), ch(2, 1, 4), ch(5, -1, 4))
	does(t, w, step(1), ch(1, -1, 4), ch(2, 1, 4), ch(5, -1, 4))
	does(t, w, take(2, 3), ch(3, -1, 3), ch(4, 1, 3))
	does(t, w, advance(2, 0, at(1)), ch(0, -1, 0), ch(0, 1, 1))
	does(t, w, drop(0, 1), ch(4, -1, 0))
	tokens(t, w, ch(0, 2, 0), ch(0, 1, 1), ch(1, 1, 3), ch(2, 2, 4), ch(3, 2, 4), ch(4, 2, 0), ch(4, 1, 3), ch(5, 1, 3))
	number(t, "outstanding", w.Outstanding(), 4)
	number(t, "waiting", w.Waiting(2, 1)+w.Waiting(0, 3)+w.Waiting(1, 3)+w.Waiting(2, 5), 4)
	counts(t, w, 0, ch(0, 3, 0), ch(1, 1, 3), ch(1, 1, 4), ch(2, 1, 4), ch(3, 1, 3), ch(3, 2, 4), ch(4, 2, 0), ch(5, 1, 3), ch(5, 1, 4))
	safe(t, w)
}

func TestTokensInTheirOrder(t *testing.T) { // P26.5: by places, then in the order of telling
	g := nodes(input(), free(true, 1, 2), input(), free(false, 2, 0))
	g.Arity = 3
	g.Edges = []api.Edge{keyed(0, 3), {From: 2, To: 1, Keyed: true}} // Places: 0; 1 in, 2 3 out; 4; 5 6 in.
	w := begin(t, g, 4)
	times := []api.Time{at(2, 0, 0), at(1, 9, 9), at(0, 5, 0), at(0, 0, last), at(1, 0, 3), at(1, 9, 0), at(0, 4, last)}
	for i, u := range times {
		send(i%4, 0, u, rec(uint64(i), 1)).of(w)
		send(i%4, 2, u, rec(uint64(i), 1)).of(w)
		clone(i%4, 1).of(w)
		lower(i%4, 3+i/4, u).of(w)
	}
	var want []api.Change
	want = append(want, ch(0, 4, 0))
	slices.SortFunc(times, orderOf)
	lists := map[int]bool{1: true, 2: true, 5: true}
	for place := 1; place < 6; place++ {
		switch place {
		case 2, 3, 4:
			want = append(want, ch(place, 4, 0))
		}
		for _, u := range times {
			if lists[place] {
				want = append(want, api.Change{S: api.Stamp{At: place, T: u}, N: 1})
			}
		}
	}
	tokens(t, w, want...)
}

func TestCaughtByAllWorkers(t *testing.T) { // P26.5: together, in the order of times, keys and values, as often as each is there
	g := trapped()
	g.Nodes = append(g.Nodes, trap())
	g.Edges = append(g.Edges, edge(0, 2))
	g.Arity = 2
	for workers := 1; workers <= api.MaxWorkers; workers++ {
		w := begin(t, g, workers)
		var want []api.Caught
		for i := range uint64(150) {
			u, r := at(i%3, i%4), rec(i*7%5, i/3%2)
			if x := send(int(i)%workers, 0, u, r).of(w); x.e != api.OK {
				t.Fatal(x)
			}
			want = append(want, caught(u, r))
			if i%9 == 0 {
				step(int(i) % workers).of(w)
			}
		}
		comes(t, w)
		for self := range workers {
			step(self).of(w)
		}
		slices.SortFunc(want, orderOfCaught)
		catches(t, w, 1, want...)
		catches(t, w, 2, want...)
		catches(t, w, 0)
		catches(t, w, 3)
		if len(slices.Compact(want)) == 150 {
			t.Error("none is there twice")
		}
	}
}

func TestNumbersThatAreNone(t *testing.T) { // P26.5
	w := acted(t)
	comes(t, w)
	for self := range 2 {
		step(self).of(w)
	}
	comes(t, w)
	some := []int{0, 1, 13, 14}
	for _, n := range append(noNumbers(), 2, 3, 7, 8) {
		is(t, "Counts", w.Counts(n))
		is(t, "Held", w.Held(n))
		for _, m := range append(noNumbers(), some...) {
			is(t, "Front", w.Front(n, m))
			number(t, "waiting", w.Waiting(n, m), 0)
			if w.Open(n, m, at()) || w.Open(n, m, at(last, last, last)) {
				t.Errorf("something is open at %d of %d", m, n)
			}
			if epoch, open := w.Epoch(n, m); epoch != at() || open {
				t.Errorf("Epoch(%d, %d) = %v, %v", n, m, epoch, open)
			}
			onLink(t, w, n, m, 0, 0)
			onLink(t, w, m, n, 0, 0)
		}
	}
	for self := range 2 {
		onLink(t, w, self, self, 0, 0)
		for _, place := range append(noNumbers(), 15, 16, 191) {
			is(t, "Front", w.Front(self, place))
			number(t, "waiting", w.Waiting(self, place), 0)
			if w.Open(self, place, at()) || w.Open(self, place, at(last, last, last)) {
				t.Errorf("something is open at %d", place)
			}
		}
		for _, place := range []int{0, 2, 4, 7, 9, 11, 14} {
			number(t, "waiting at an out-place", w.Waiting(self, place), 0)
		}
		for _, node := range append(noNumbers(), 1, 2, 3, 4, 5, 6, 7, 8) {
			if epoch, open := w.Epoch(self, node); epoch != at() || open {
				t.Errorf("Epoch(%d, %d) = %v, %v", self, node, epoch, open)
			}
		}
	}
	if epoch, open := w.Epoch(0, 0); epoch != at(3) || !open {
		t.Errorf("Epoch(0, 0) = %v, %v", epoch, open)
	}
	if epoch, open := w.Epoch(1, 0); epoch != at() || open {
		t.Errorf("Epoch(1, 0) = %v, %v: it is closed", epoch, open)
	}
	for _, node := range append(noNumbers(), 0, 1, 2, 3, 4, 5, 7, 8) {
		catches(t, w, node)
	}
}

func TestEachViewIsAWorkersOwn(t *testing.T) { // P26.5: Front, Open, Counts, Held, Epoch
	w := begin(t, kinds(), 3)
	does(t, w, advance(1, 0, at(4)), ch(0, -1, 0), ch(0, 1, 4))
	does(t, w, shut(0, 0), ch(0, -1, 0))
	does(t, w, shut(2, 0), ch(0, -1, 0))
	for self := range 3 {
		does(t, w, drop(self, 1), ch(14, -1, 0))
	}
	does(t, w, hear(0, 1), ch(0, -1, 0), ch(0, 1, 4))
	does(t, w, hear(0, 2), ch(0, -1, 0))
	counts(t, w, 0, ch(0, 1, 4), ch(14, 2, 0))
	counts(t, w, 1, ch(0, 2, 0), ch(0, 1, 4), ch(14, 2, 0))
	counts(t, w, 2, ch(0, 2, 0), ch(14, 2, 0))
	for self, want := range []api.Time{at(4), at(), at()} {
		for _, place := range []int{0, 1, 10, 13} {
			fronts(t, w, self, place, want)
			for u := range uint64(6) {
				if w.Open(self, place, at(u)) != (u >= want.A) {
					t.Errorf("Open(%d, %d, %d) is not by %v", self, place, u, want)
				}
			}
		}
		// What the others' free nodes hold could come to the probe.
		fronts(t, w, self, 12, at())
	}
	for self, want := range []bool{false, true, false} {
		if epoch, open := w.Epoch(self, 0); open != want || open && epoch != at(4) {
			t.Errorf("Epoch(%d, 0) = %v, %v", self, epoch, open)
		}
		is(t, "Held", w.Held(self))
	}
	if !w.Open(0, 0, at(last)) || !w.Open(0, 0, at(4, 7)) || w.Open(0, 8, at(4)) {
		t.Error("Open is not by the front")
	}
}
