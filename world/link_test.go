package world

import (
	"fmt"
	"testing"

	"sluice/api"
	"sluice/route"
)

// fork is an input whose records go along several edges: by keys to two probes, to a third one at the same worker, and by keys to a free node's in-port. Places: 0 the input's; 1, 2, 3 the probes'; 4 the free node's in-place, 5 its out-place.
func fork() api.Graph {
	g := nodes(input(), trap(), trap(), trap(), free(false, 1, 1, api.Conn{By: by(1)}))
	g.Edges = []api.Edge{keyed(0, 4), edge(0, 2), keyed(0, 3), keyed(0, 1)}
	return g
}

func TestMessagesGoAlongKeys(t *testing.T) { // P26.3: to the worker that keyed edges name, in the order in which they were made
	for workers := 1; workers <= api.MaxWorkers; workers++ {
		for from := range workers {
			for to := range workers {
				w := begin(t, fork(), workers)
				r := rec(keyOf(to, workers, 1), 9)
				if x := does(t, w, send(from, 0, at(3), r), ch(1, 1, 3), ch(2, 1, 3), ch(3, 1, 3), ch(4, 1, 3)); len(x.IDs) != 0 || x.Message != (api.Message{}) {
					t.Errorf("Send = %v", x)
				}
				number(t, "outstanding", w.Outstanding(), 4)
				number(t, "waiting at 2", w.Waiting(from, 2), 1)
				for self := range workers {
					for other := range workers {
						want := 0
						if self == from && other == to && from != to {
							want = 3
						}
						number(t, fmt.Sprint("messages from ", self, " to ", other), w.Messages(self, other), want)
					}
				}
				if from != to {
					for _, place := range []int{4, 3, 1} {
						number(t, "waiting", w.Waiting(to, place), 0)
						passes(t, w, pass(to, from), msg(place, at(3), r))
						number(t, "waiting", w.Waiting(to, place), 1)
					}
					refuses(t, w, pass(to, from), api.ErrEmpty)
				}
				for place := 1; place <= 4; place++ {
					if place != 2 {
						number(t, "waiting", w.Waiting(to, place), 1)
					}
				}
				number(t, "outstanding", w.Outstanding(), 4)
			}
		}
	}
}

func TestMessagesWaitBehindTheOthers(t *testing.T) { // P26.4: in the order in which they came, from links and from the worker itself
	w := begin(t, fork(), 3)
	k := keyOf(1, 3, 0)
	for i := range uint64(5) {
		for self := range 3 {
			does(t, w, send(self, 0, at(9-i), rec(k, 10*uint64(self)+i)), ch(1, 1, 9-i), ch(2, 1, 9-i), ch(3, 1, 9-i), ch(4, 1, 9-i))
		}
	}
	// At worker 1 its own five wait; then two of worker 2 come, one of worker 0, two of worker 2, and so on.
	var want []api.Message
	for i := range uint64(5) {
		want = append(want, msg(4, at(9-i), rec(k, 10+i)))
	}
	var came [3]uint64
	for _, from := range []int{2, 2, 0, 2, 0, 0, 0, 2, 2, 0} {
		i := came[from]
		came[from]++
		r := rec(k, 10*uint64(from)+i)
		for _, place := range []int{4, 3, 1} {
			passes(t, w, pass(1, from), msg(place, at(9-i), r))
		}
		want = append(want, msg(4, at(9-i), r))
	}
	number(t, "waiting", w.Waiting(1, 4), 15)
	for i, m := range want {
		x := does(t, w, take(1, 4), ch(4, -1, m.T.A), ch(5, 1, m.T.A+1))
		mints(t, x, m, i+1)
	}
	refuses(t, w, take(1, 4), api.ErrEmpty)
}

func TestAStepsMessagesInTheirOrder(t *testing.T) { // P26.3: of several nodes, of several records, to several workers
	// Places: input 0; join 1 2; map 3 4; join 5 6; probe 7; probe 8. The later join takes in the same step what the map makes.
	g := nodes(input(), join(1), mapper(api.Op{Kind: 2, Arg: 1}), join(1), trap(), trap())
	g.Edges = []api.Edge{edge(0, 1), edge(0, 2), keyed(1, 5), keyed(1, 4), edge(2, 3), keyed(3, 4)}
	w := begin(t, g, 3)
	var sent []uint64
	for key := range uint64(30) {
		does(t, w, send(0, 0, at(), rec(key, key)), ch(1, 1, 0), ch(3, 1, 0))
		sent = append(sent, key)
	}
	if x := step(0).of(w); x.e != api.OK {
		t.Fatal(x)
	}
	// The join's, record by record, each along its edges in their order; then those of the other join, whose keys are one more.
	var want [3][]api.Message
	note := func(place int, r api.Record) {
		to := route.To(r.Key, 3)
		want[to] = append(want[to], msg(place, at(), r))
	}
	for _, key := range sent {
		note(8, rec(key, key))
		note(7, rec(key, key))
	}
	for _, key := range sent {
		note(7, rec(key+1, key))
	}
	number(t, "outstanding", w.Outstanding(), 90-len(want[0])+w.Waiting(0, 7)+w.Waiting(0, 8))
	for to := 1; to < 3; to++ {
		number(t, "messages", w.Messages(0, to), len(want[to]))
		for _, m := range want[to] {
			passes(t, w, pass(to, 0), m)
		}
		refuses(t, w, pass(to, 0), api.ErrEmpty)
	}
}

func TestLinksAreByThemselves(t *testing.T) { // P26.3, P26.4: batches and messages have links of their own
	w := begin(t, trapped(), 2)
	r := rec(keyOf(1, 2, 0), 1)
	for i := range uint64(3) {
		does(t, w, send(0, 0, at(i), r), ch(1, 1, i))
	}
	does(t, w, advance(0, 0, at(9)), ch(0, -1, 0), ch(0, 1, 9))
	onLink(t, w, 0, 1, 4, 3)
	passes(t, w, pass(1, 0), msg(1, at(), r))
	onLink(t, w, 0, 1, 4, 2)
	does(t, w, hear(1, 0), ch(1, 1, 0))
	does(t, w, hear(1, 0), ch(1, 1, 1))
	onLink(t, w, 0, 1, 2, 2)
	passes(t, w, pass(1, 0), msg(1, at(1), r))
	passes(t, w, pass(1, 0), msg(1, at(2), r))
	refuses(t, w, pass(1, 0), api.ErrEmpty)
	does(t, w, hear(1, 0), ch(1, 1, 2))
	does(t, w, hear(1, 0), ch(0, -1, 0), ch(0, 1, 9))
	refuses(t, w, hear(1, 0), api.ErrEmpty)
	onLink(t, w, 0, 1, 0, 0)
}

func TestTakeAndCloneTellNumbers(t *testing.T) { // P26.3: IDs and Message
	g := nodes(free(true, 2, 2, api.Conn{In: 1, Out: 1, By: by(2)}, api.Conn{In: 1}, api.Conn{In: 1, Out: 1, By: by(last)}), input(), input())
	g.Edges = []api.Edge{{From: 1, To: 0, In: 1}, {From: 2, To: 0, In: 0}}
	w := begin(t, g, 2) // Places: 0 1 in, 2 3 out; 4; 5.
	is(t, "Held", w.Held(1), held(1, 2, 0), held(2, 3, 0))
	send(1, 1, at(4), rec(7, 5)).of(w)
	send(1, 1, at(), rec(8, 6)).of(w)
	send(1, 2, at(1), rec(9, 7)).of(w)
	mints(t, does(t, w, take(1, 1), ch(1, -1, 4), ch(2, 1, 4), ch(3, 1, 6)), msg(1, at(4), rec(7, 5)), 3, 4)
	mints(t, does(t, w, clone(1, 3), ch(3, 1, 6)), api.Message{}, 5)
	mints(t, does(t, w, take(1, 1), ch(1, -1, 0), ch(2, 1, 0), ch(3, 1, 2), ch(3, 1, last)), msg(1, at(), rec(8, 6)), 6, 7, 8)
	// From an in-port without connections none is minted.
	mints(t, does(t, w, take(1, 0), ch(0, -1, 1)), msg(0, at(1), rec(9, 7)))
	is(t, "Held", w.Held(1), held(1, 2, 0), held(2, 3, 0), held(3, 3, 6), held(4, 2, 4), held(5, 3, 6), held(6, 3, 2), held(7, 2, 0), held(8, 3, last))
	is(t, "Held", w.Held(0), held(1, 2, 0), held(2, 3, 0))
	// Numbers are each worker's own, and never come again.
	does(t, w, drop(1, 8), ch(3, -1, last))
	mints(t, does(t, w, clone(1, 1), ch(2, 1, 0)), api.Message{}, 9)
	mints(t, does(t, w, clone(0, 1), ch(2, 1, 0)), api.Message{}, 3)
}
